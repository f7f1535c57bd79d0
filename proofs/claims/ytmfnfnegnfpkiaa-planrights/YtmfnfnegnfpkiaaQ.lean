
/- math/bits.Div64. -/
import Derived.Test.YtmfnfnegnfpkiaaI
import Derived.Test.YtmfnfnegnfpkiaaJ2
set_option linter.unusedSimpArgs false
set_option linter.unusedVariables false
set_option maxRecDepth 20000
namespace Go.Proofs.Ytmfnfnegnfpkiaa
open Go.RowKit

/-- The guess of a digit is not too small; P is the guess times the lower half. -/
def DInv (u a b d q r : Int) : Prop := 0 ≤ q ∧ q * a + r = u ∧ 0 ≤ r ∧ r < 4294967296 ∧ d + r * 4294967296 < q * b + a * 4294967296 + b
def DFin (u a b d q : Int) : Prop := 0 ≤ q ∧ q < 4294967296 ∧ q * (a * 4294967296 + b) ≤ u * 4294967296 + d ∧ u * 4294967296 + d < (q + 1) * (a * 4294967296 + b)
def DNorm (a b d u : Int) : Prop := (2147483648 ≤ a ∧ a < 4294967296) ∧ (0 ≤ b ∧ b < 4294967296) ∧ (0 ≤ d ∧ d < 4294967296) ∧ 0 ≤ u ∧ u < a * 4294967296 + b

theorem dinv_start {u a b d q : Int} (h : DNorm a b d u) (hq : u / a = q) : DInv u a b d q (u - q * a) ∧ 0 ≤ q * a ∧ q * a ≤ u ∧ 0 ≤ q := by
  obtain ⟨ha, hb, hd, hu0, hu1⟩ := h
  have h1 := Int.emod_add_mul_ediv u a
  have h2 := Int.emod_nonneg u (show a ≠ 0 by omega)
  have h3 := Int.emod_lt_of_pos u (show 0 < a by omega)
  have h4 : 0 ≤ u / a := Int.ediv_nonneg hu0 (by omega)
  rw [hq] at h1 h4
  rw [Int.mul_comm a q] at h1
  have h5 : 0 ≤ q * b := Int.mul_nonneg h4 hb.1
  have h6 : 0 ≤ q * a := Int.mul_nonneg h4 (by omega)
  refine ⟨⟨h4, by omega, by omega, by omega, ?_⟩, h6, by omega, h4⟩
  generalize q * a = A at *
  generalize q * b = P at *
  omega

theorem dinv_prod {u a b d q r : Int} (h : DNorm a b d u) (k : DInv u a b d q r) (hq : q < 4294967296) : 0 ≤ q * b ∧ q * b < 18446744073709551616 := by
  obtain ⟨ha, hb, hd, hu0, hu1⟩ := h
  have h1 : q * b ≤ 4294967295 * 4294967295 := Int.mul_le_mul (by omega) (by omega) hb.1 (by omega)
  have h2 : 0 ≤ q * b := Int.mul_nonneg k.1 hb.1
  omega

theorem dinv_done {u a b d q r : Int} (h : DNorm a b d u) (k : DInv u a b d q r) (hq : q < 4294967296) (hp : q * b ≤ 4294967296 * r + d) : DFin u a b d q := by
  obtain ⟨k0, k1, k2, k3, k4⟩ := k
  have e1 : q * (a * 4294967296 + b) = q * a * 4294967296 + q * b := by rw [Int.mul_add, Int.mul_assoc]
  have e2 : (q + 1) * (a * 4294967296 + b) = q * a * 4294967296 + q * b + a * 4294967296 + b := by rw [Int.add_mul, e1]; omega
  refine ⟨k0, hq, ?_, ?_⟩
  · rw [e1]; generalize q * a = A at *; generalize q * b = P at *; omega
  · rw [e2]; generalize q * a = A at *; generalize q * b = P at *; omega

/-- The guess is too great: one less. -/
theorem dinv_next {u a b d q r : Int} (h : DNorm a b d u) (k : DInv u a b d q r) (ht : 4294967296 ≤ q ∨ 4294967296 * r + d < q * b) :
    1 ≤ q ∧ (r + a < 4294967296 → DInv u a b d (q - 1) (r + a)) ∧ (4294967296 ≤ r + a → DFin u a b d (q - 1)) := by
  obtain ⟨ha, hb, hd, hu0, hu1⟩ := h
  obtain ⟨k0, k1, k2, k3, k4⟩ := k
  have hs : 4294967296 * r + d < q * b := by
    rcases ht with ht | ht
    · have h1 : 4294967296 * a ≤ q * a := Int.mul_le_mul_of_nonneg_right ht (by omega)
      have h2 : 4294967296 * b ≤ q * b := Int.mul_le_mul_of_nonneg_right ht (by omega)
      generalize q * a = A at *
      generalize q * b = P at *
      omega
    · exact ht
  have hq1 : 1 ≤ q := by
    by_cases e : q = 0
    · subst e; omega
    · omega
  have e1 : (q - 1) * a = q * a - a := by rw [Int.sub_mul]; omega
  have e2 : (q - 1) * b = q * b - b := by rw [Int.sub_mul]; omega
  refine ⟨hq1, fun hr => ⟨by omega, ?_, by omega, hr, ?_⟩, fun hr => ?_⟩
  · rw [e1]; omega
  · rw [e2]; generalize q * b = P at *; omega
  · have hlt : q - 1 < 4294967296 := by
      by_cases c : q - 1 < 4294967296
      · exact c
      · have h1 : 4294967296 * a ≤ (q - 1) * a := Int.mul_le_mul_of_nonneg_right (by omega) (by omega)
        rw [e1] at h1
        generalize q * a = A at *
        omega
    have h3 : (q - 1) * b ≤ 4294967295 * 4294967295 := Int.mul_le_mul (by omega) (by omega) hb.1 (by omega)
    have f1 : (q - 1) * (a * 4294967296 + b) = (q - 1) * a * 4294967296 + (q - 1) * b := by rw [Int.mul_add, Int.mul_assoc]
    have f2 : (q - 1 + 1) * (a * 4294967296 + b) = (q - 1) * a * 4294967296 + (q - 1) * b + a * 4294967296 + b := by rw [Int.add_mul, f1]; omega
    refine ⟨by omega, hlt, ?_, ?_⟩
    · rw [f1]; rw [e1, e2] at *; generalize q * a = A at *; generalize q * b = P at *; omega
    · rw [f2]; rw [e1, e2] at *; generalize q * a = A at *; generalize q * b = P at *; omega

theorem dfin_rest {u a b d q : Int} (k : DFin u a b d q) : 0 ≤ u * 4294967296 + d - q * (a * 4294967296 + b) ∧ u * 4294967296 + d - q * (a * 4294967296 + b) < a * 4294967296 + b := by
  obtain ⟨k0, k1, k2, k3⟩ := k
  rw [Int.add_mul] at k3
  generalize q * (a * 4294967296 + b) = A at *
  omega

set_option maxHeartbeats 400000 in
theorem lead64_pos (x : Int) (h1 : 0 < x) (h2 : x < 18446744073709551616) (w : World) :
    Calls Try.prog 128 #[.int .u64 x] w fun e w' => ∃ s : Int, e = .returned (.int .i64 s) ∧ 0 ≤ s ∧ s < 64 ∧ Hid (9223372036854775808 ≤ x * 2 ^ s.toNat ∧ x * 2 ^ s.toNat < 18446744073709551616) ∧ w' = w := by
  refine (lead64_any x (by omega) h2 w).mono ?_
  rintro e w' ⟨rfl, rfl⟩
  obtain ⟨n, rfl⟩ := Int.eq_ofNat_of_zero_le (show 0 ≤ x by omega)
  have hb := bitLen_le64 (x := (n : Int)) (by omega) h2
  rw [Int.toNat_natCast] at *
  obtain ⟨g1, g2⟩ := bitLen_spec n
  have g2 := g2 (by omega)
  have hpos : 1 ≤ bitLen n := by
    unfold bitLen; rw [if_neg (by omega)]; omega
  refine ⟨_, rfl, by omega, by omega, ?_, rfl⟩
  have e : ((64 : Int) - (bitLen n : Int)).toNat = 64 - bitLen n := by omega
  rw [e]
  unfold Hid
  have p1 : 2 ^ (bitLen n - 1) * 2 ^ (64 - bitLen n) = 9223372036854775808 := by rw [← Nat.pow_add, show bitLen n - 1 + (64 - bitLen n) = 63 by omega]
  have p2 : 2 ^ bitLen n * 2 ^ (64 - bitLen n) = 18446744073709551616 := by rw [← Nat.pow_add, show bitLen n + (64 - bitLen n) = 64 by omega]
  have q1 : 2 ^ (bitLen n - 1) * 2 ^ (64 - bitLen n) ≤ n * 2 ^ (64 - bitLen n) := Nat.mul_le_mul_right _ g2
  have q2 : n * 2 ^ (64 - bitLen n) < 2 ^ bitLen n * 2 ^ (64 - bitLen n) := Nat.mul_lt_mul_of_pos_right g1 (Nat.two_pow_pos _)
  rw [p1] at q1; rw [p2] at q2
  have e2 : ((n : Int) * 2 ^ (64 - bitLen n)) = ((n * 2 ^ (64 - bitLen n) : Nat) : Int) := by simp
  rw [e2]
  omega

theorem div_norm {hi lo y s hh lh hl ll hy ly : Int} (hlo : 0 ≤ lo) (hhi : 0 ≤ hi) (hlt : hi < y) (hs : 0 ≤ s ∧ s < 64) (hn : Hid (9223372036854775808 ≤ y * 2 ^ s.toNat ∧ y * 2 ^ s.toNat < 18446744073709551616))
    (m1 : Hid (hi * 2 ^ s.toNat = hh * 18446744073709551616 + lh)) (b1 : 0 ≤ lh ∧ lh < 18446744073709551616) (g1 : 0 ≤ hh)
    (m2 : Hid (lo * 2 ^ s.toNat = hl * 18446744073709551616 + ll)) (g2 : 0 ≤ hl) (f2 : Hid (hl < 2 ^ s.toNat))
    (m3 : Hid (y * 2 ^ s.toNat = hy * 18446744073709551616 + ly)) (b3 : 0 ≤ ly ∧ ly < 18446744073709551616) (g3 : 0 ≤ hy) :
    hh = 0 ∧ hy = 0 ∧ lh + hl < ly ∧ 9223372036854775808 ≤ ly ∧ Hid (ly = y * 2 ^ s.toNat) ∧ Hid ((hi * 18446744073709551616 + lo) * 2 ^ s.toNat = (lh + hl) * 18446744073709551616 + ll) := by
  unfold Hid at *
  have hT : (0 : Int) < 2 ^ s.toNat := Int.pow_pos (by omega)
  generalize (2 : Int) ^ s.toNat = T at *
  have h1 : (hi + 1) * T ≤ y * T := Int.mul_le_mul_of_nonneg_right (by omega) (by omega)
  rw [Int.add_mul] at h1
  have e : (hi * 18446744073709551616 + lo) * T = hi * T * 18446744073709551616 + lo * T := by rw [Int.add_mul, Int.mul_right_comm]
  rw [e]
  generalize hi * T = A at *
  generalize lo * T = B at *
  generalize y * T = C at *
  have hy0 : hy = 0 := by omega
  have hh0 : hh = 0 := by omega
  subst hy0 hh0
  refine ⟨rfl, rfl, by omega, by omega, by omega, by omega⟩

theorem half_parts (z : Int) (h : 0 ≤ z ∧ z < 18446744073709551616) : ∃ a b : Int, z / 4294967296 = a ∧ bits .and .u64 z 4294967295 = b ∧ Hid (z = a * 4294967296 + b) ∧ 0 ≤ a ∧ a < 4294967296 ∧ 0 ≤ b ∧ b < 4294967296 := by
  refine ⟨_, _, rfl, and_low32 z h.1 h.2, show _ = _ by omega, by omega, by omega, by omega, by omega⟩
theorem div_dnorm {ly a b c u : Int} (hab : Hid (ly = a * 4294967296 + b)) (z4 : 9223372036854775808 ≤ ly) (b3 : 0 ≤ ly ∧ ly < 18446744073709551616) (b4 : 0 ≤ b) (b5 : b < 4294967296) (c1 : 0 ≤ c) (c2 : c < 4294967296) (z3 : u < ly) (hu : 0 ≤ u) : DNorm a b c u := by
  have hab := hab.out
  exact ⟨⟨by omega, by omega⟩, ⟨b4, b5⟩, ⟨c1, c2⟩, hu, by omega⟩

theorem un21 {u a b c q ly : Int} (hab : Hid (ly = a * 4294967296 + b)) (hly : ly < 18446744073709551616) (hF : DFin u a b c q) :
    ∃ v, IntKind.u64.wrap (IntKind.u64.wrap (IntKind.u64.wrap (u * 4294967296) + c) - IntKind.u64.wrap (q * ly)) = v ∧ Hid (u * 4294967296 + c = q * ly + v) ∧ 0 ≤ v ∧ v < ly := by
  obtain ⟨h1, h2⟩ := dfin_rest hF
  rw [← hab.out] at h1 h2
  refine ⟨u * 4294967296 + c - q * ly, ?_, show _ = _ by omega, h1, h2⟩
  simp only [IntKind.wrap_u64]
  generalize q * ly = A at *
  omega

theorem quo_wrap {q p : Int} (h1 : 0 ≤ q ∧ q < 4294967296) (h2 : 0 ≤ p ∧ p < 4294967296) : IntKind.u64.wrap (IntKind.u64.wrap (q * 4294967296) + p) = q * 4294967296 + p := by
  simp only [IntKind.wrap_u64]; omega

theorem quo_wrap1 {q p : Int} (h1 : 0 ≤ q ∧ q < 4294967296) (h2 : 0 ≤ p ∧ p < 4294967296) : IntKind.u64.wrap (q * 4294967296 + p) = q * 4294967296 + p := by
  simp only [IntKind.wrap_u64]; omega

theorem div_fin {hi lo y s u ll ly c d q p v x : Int} (hs : 0 ≤ s) (z5 : Hid (ly = y * 2 ^ s.toNat)) (z6 : Hid ((hi * 18446744073709551616 + lo) * 2 ^ s.toNat = u * 18446744073709551616 + ll)) (hcd : Hid (ll = c * 4294967296 + d))
    (e1 : Hid (u * 4294967296 + c = q * ly + v)) (e2 : Hid (v * 4294967296 + d = p * ly + x)) (x0 : 0 ≤ x) (x1 : x < ly) :
    0 ≤ x / 2 ^ s.toNat ∧ x / 2 ^ s.toNat < y ∧ hi * 18446744073709551616 + lo = (q * 4294967296 + p) * y + x / 2 ^ s.toNat := by
  unfold Hid at *
  have hT : (0 : Int) < 2 ^ s.toNat := Int.pow_pos (by omega)
  generalize (2 : Int) ^ s.toNat = T at *
  generalize hi * 18446744073709551616 + lo = N at *
  have e3 : N * T = (q * 4294967296 + p) * y * T + x := by
    have : (q * 4294967296 + p) * y * T = q * ly * 4294967296 + p * ly := by
      rw [z5]; grind
    rw [this, z6, hcd]
    generalize q * ly = A at *
    generalize p * ly = B at *
    omega
  have e4 : x = (N - (q * 4294967296 + p) * y) * T := by rw [Int.sub_mul, e3]; omega
  have e5 : x / T = N - (q * 4294967296 + p) * y := by rw [e4]; exact Int.mul_ediv_cancel _ (by omega)
  have e6 : 0 ≤ x / T := Int.ediv_nonneg x0 (by omega)
  have e7 : x / T < y := by
    apply Int.ediv_lt_of_lt_mul hT
    rw [← z5]; exact x1
  refine ⟨e6, e7, ?_⟩
  rw [e5]; omega

set_option maxHeartbeats 4000000 in
theorem div64_hi (hi lo y : Int) (h0 : 0 < hi) (h1 : hi < y) (hy : y < 18446744073709551616) (hlo : 0 ≤ lo ∧ lo < 18446744073709551616) (w : World) :
    Calls Try.prog 129 #[.int .u64 hi, .int .u64 lo, .int .u64 y] w fun e w' => ∃ q r : Int, e = .returned (.tuple #[.int .u64 q, .int .u64 r]) ∧ (0 ≤ q ∧ q < 18446744073709551616) ∧ (0 ≤ r ∧ r < y) ∧ Hid (hi * 18446744073709551616 + lo = q * y + r) ∧ Below w.heap.size w w' := by
  have hy0 : ¬ y = 0 := by omega
  have hyb : (y == 0) = false := by simp; omega
  have hhb : (hi == 0) = false := by simp; omega
  have hyle : ¬ y ≤ hi := by omega
  go_enter Try.func129, Try.ntmps129
  go_wp2_with (go_at_call 128; refine (lead64_pos y (by omega) hy _).mono ?_; rintro e w' ⟨s, rfl, hs0, hs1, hn, rfl⟩; obtain ⟨hh, lh, s1, v1, m1, b1, d1, g1, f1, t1⟩ := shl_part hi s ⟨by omega, by omega⟩ ⟨hs0, hs1⟩; obtain ⟨hl, ll, s2, v2, m2, b2, d2, g2, f2, t2⟩ := shl_part lo s hlo ⟨hs0, hs1⟩; obtain ⟨hyy, ly, s3, v3, m3, b3, d3, g3, f3, t3⟩ := shl_part y s ⟨by omega, by omega⟩ ⟨hs0, hs1⟩; obtain ⟨z1, z2, z3, z4, z5, z6⟩ := div_norm hlo.1 (by omega) h1 ⟨hs0, hs1⟩ hn m1 b1 g1 m2 g2 f2 m3 b3 g3; obtain ⟨o1, o2⟩ := shl_or ⟨hs0, hs1⟩ b1 d1 g2 f2 t2; obtain ⟨u, hu⟩ : ∃ u, lh + hl = u := ⟨_, rfl⟩; rw [hu] at o1 o2 z3 z6; obtain ⟨a, b, ha, hb, hab, a1, a2, b4, b5⟩ := half_parts ly b3; obtain ⟨c, d, hc, hd, hcd, c1, c2, d4, d5⟩ := half_parts ll b2; have hN : DNorm a b c u := div_dnorm hab z4 b3 b4 b5 c1 c2 z3 (by omega) ; have hN' : DNorm a b d u := div_dnorm hab z4 b3 b4 b5 d4 d5 z3 (by omega); obtain ⟨q, hq⟩ : ∃ q, u / a = q := ⟨_, rfl⟩; obtain ⟨i1, i2, i3, i4⟩ := dinv_start hN hq; have hu0 : 0 ≤ u := (by omega); clear v1 m1 d1 g1 f1 t1 m2 d2 m3 d3 g3 f3 t3 b1 hn z1 z2)
  go_loop [15, 16] (fun x15 x16 => ∃ q r : Int, x15 = .int .u64 q ∧ x16 = .int .u64 r ∧ DInv u a b c q r ∧ q < 18446744073709551616) (fun x15 _ => (intOf x15).toNat)
  case atStart => exact ⟨q, _, by rw [hq], rfl, i1, by have := Int.ediv_le_self a hu0; omega⟩
  case round =>
    clear i1 i2 i3 i4
    obtain ⟨k, r, rfl, rfl, hI, hqM⟩ := hrel
    have hI0 := hI.1; have hI2 := hI.2.2.1; have hI3 := hI.2.2.2.1
    have ha0 := hN.1.1; have ha1 := hN.1.2
    by_cases c1 : 4294967296 ≤ k
    · obtain ⟨n1, n2, n3⟩ := dinv_next hN hI (.inl c1)
      by_cases c3 : 4294967296 ≤ r + a
      · have hF := n3 c3
        clear n2 n3
        clear hI
        obtain ⟨v, hv, vh, v0, v1⟩ := un21 (u := u) (c := c) hab b3.2 hF
        have hM : DNorm a b d v := div_dnorm hab z4 b3 b4 b5 d4 d5 v1 v0
        obtain ⟨p, hp⟩ : ∃ p, v / a = p := ⟨_, rfl⟩
        obtain ⟨j1, j2, j3, j4⟩ := dinv_start hM hp
        have hvM : v < 18446744073709551616 := by omega
        go_wp2
        go_loop [18, 16] (fun x15 x16 => ∃ q r : Int, x15 = .int .u64 q ∧ x16 = .int .u64 r ∧ DInv v a b d q r ∧ q < 18446744073709551616) (fun x15 _ => (intOf x15).toNat)
        case atStart => exact ⟨p, _, by first | rfl | rw [hp], rfl, j1, by have := Int.ediv_le_self a v0; omega⟩
        case round =>
          clear j1 j2 j3 j4
          obtain ⟨j, f, rfl, rfl, hJ, hjM⟩ := hrel
          have hJ0 := hJ.1; have hJ2 := hJ.2.2.1; have hJ3 := hJ.2.2.2.1
          by_cases e1 : 4294967296 ≤ j
          · obtain ⟨n1, n2, n3⟩ := dinv_next hM hJ (.inl e1)
            by_cases e3 : 4294967296 ≤ f + a
            · have hG := n3 e3
              clear n2 n3 hJ
              obtain ⟨x, xe, xh, x0, x1⟩ := un21 (u := v) (c := d) hab b3.2 hG
              have hq2 := quo_wrap ⟨hF.1, hF.2.1⟩ ⟨hG.1, hG.2.1⟩; have hq3 := quo_wrap1 ⟨hF.1, hF.2.1⟩ ⟨hG.1, hG.2.1⟩
              go_wp2
              go_ret2
              obtain ⟨y0, y1, y2⟩ := div_fin hs0 z5 z6 hcd vh xh x0 x1
              refine ⟨_, _, rfl, ⟨?_, ?_⟩, ⟨y0, y1⟩, y2, Below.refl _ _⟩
              · have := hF.1; have := hG.1; omega
              · have := hF.2.1; have := hG.2.1; omega
            · have hG := n2 (by omega)
              clear n2 n3
              go_wp2
              go_round
              case rel => exact ⟨j - 1, f + a, rfl, rfl, hG, by omega⟩
              case measure => simp [intOf]; omega
          · have hP2 := dinv_prod hM hJ (by omega)
            obtain ⟨P2, hP2e⟩ : ∃ P, j * b = P := ⟨_, rfl⟩
            rw [hP2e] at hP2
            by_cases e2 : 4294967296 * f + d < P2
            · obtain ⟨n1, n2, n3⟩ := dinv_next hM hJ (.inr (by rw [hP2e]; exact e2))
              by_cases e3 : 4294967296 ≤ f + a
              · have hG := n3 e3
                clear n2 n3 hJ
                obtain ⟨x, xe, xh, x0, x1⟩ := un21 (u := v) (c := d) hab b3.2 hG
                have hq2 := quo_wrap ⟨hF.1, hF.2.1⟩ ⟨hG.1, hG.2.1⟩; have hq3 := quo_wrap1 ⟨hF.1, hF.2.1⟩ ⟨hG.1, hG.2.1⟩
                go_wp2
                go_ret2
                obtain ⟨y0, y1, y2⟩ := div_fin hs0 z5 z6 hcd vh xh x0 x1
                refine ⟨_, _, rfl, ⟨?_, ?_⟩, ⟨y0, y1⟩, y2, Below.refl _ _⟩
                · have := hF.1; have := hG.1; omega
                · have := hF.2.1; have := hG.2.1; omega
              · have hG := n2 (by omega)
                clear n2 n3
                go_wp2
                go_round
                case rel => exact ⟨j - 1, f + a, rfl, rfl, hG, by omega⟩
                case measure => simp [intOf]; omega
            · have hG := dinv_done hM hJ (by omega) (by rw [hP2e]; omega)
              clear hJ
              obtain ⟨x, xe, xh, x0, x1⟩ := un21 (u := v) (c := d) hab b3.2 hG
              have hq2 := quo_wrap ⟨hF.1, hF.2.1⟩ ⟨hG.1, hG.2.1⟩; have hq3 := quo_wrap1 ⟨hF.1, hF.2.1⟩ ⟨hG.1, hG.2.1⟩
              go_wp2
              go_ret2
              obtain ⟨y0, y1, y2⟩ := div_fin hs0 z5 z6 hcd vh xh x0 x1
              refine ⟨_, _, rfl, ⟨?_, ?_⟩, ⟨y0, y1⟩, y2, Below.refl _ _⟩
              · have := hF.1; have := hG.1; omega
              · have := hF.2.1; have := hG.2.1; omega
      · have hF := n2 (by omega)
        clear n2 n3
        go_wp2
        go_round
        case rel => exact ⟨k - 1, r + a, rfl, rfl, hF, by omega⟩
        case measure => simp [intOf]; omega
    · have hP := dinv_prod hN hI (by omega)
      obtain ⟨P, hPe⟩ : ∃ P, k * b = P := ⟨_, rfl⟩
      rw [hPe] at hP
      by_cases c2 : 4294967296 * r + c < P
      · obtain ⟨n1, n2, n3⟩ := dinv_next hN hI (.inr (by rw [hPe]; exact c2))
        by_cases c3 : 4294967296 ≤ r + a
        · have hF := n3 c3
          clear n2 n3
          clear hI
          obtain ⟨v, hv, vh, v0, v1⟩ := un21 (u := u) (c := c) hab b3.2 hF
          have hM : DNorm a b d v := div_dnorm hab z4 b3 b4 b5 d4 d5 v1 v0
          obtain ⟨p, hp⟩ : ∃ p, v / a = p := ⟨_, rfl⟩
          obtain ⟨j1, j2, j3, j4⟩ := dinv_start hM hp
          have hvM : v < 18446744073709551616 := by omega
          go_wp2
          go_loop [18, 16] (fun x15 x16 => ∃ q r : Int, x15 = .int .u64 q ∧ x16 = .int .u64 r ∧ DInv v a b d q r ∧ q < 18446744073709551616) (fun x15 _ => (intOf x15).toNat)
          case atStart => exact ⟨p, _, by first | rfl | rw [hp], rfl, j1, by have := Int.ediv_le_self a v0; omega⟩
          case round =>
            clear j1 j2 j3 j4
            obtain ⟨j, f, rfl, rfl, hJ, hjM⟩ := hrel
            have hJ0 := hJ.1; have hJ2 := hJ.2.2.1; have hJ3 := hJ.2.2.2.1
            by_cases e1 : 4294967296 ≤ j
            · obtain ⟨n1, n2, n3⟩ := dinv_next hM hJ (.inl e1)
              by_cases e3 : 4294967296 ≤ f + a
              · have hG := n3 e3
                clear n2 n3 hJ
                obtain ⟨x, xe, xh, x0, x1⟩ := un21 (u := v) (c := d) hab b3.2 hG
                have hq2 := quo_wrap ⟨hF.1, hF.2.1⟩ ⟨hG.1, hG.2.1⟩; have hq3 := quo_wrap1 ⟨hF.1, hF.2.1⟩ ⟨hG.1, hG.2.1⟩
                go_wp2
                go_ret2
                obtain ⟨y0, y1, y2⟩ := div_fin hs0 z5 z6 hcd vh xh x0 x1
                refine ⟨_, _, rfl, ⟨?_, ?_⟩, ⟨y0, y1⟩, y2, Below.refl _ _⟩
                · have := hF.1; have := hG.1; omega
                · have := hF.2.1; have := hG.2.1; omega
              · have hG := n2 (by omega)
                clear n2 n3
                go_wp2
                go_round
                case rel => exact ⟨j - 1, f + a, rfl, rfl, hG, by omega⟩
                case measure => simp [intOf]; omega
            · have hP2 := dinv_prod hM hJ (by omega)
              obtain ⟨P2, hP2e⟩ : ∃ P, j * b = P := ⟨_, rfl⟩
              rw [hP2e] at hP2
              by_cases e2 : 4294967296 * f + d < P2
              · obtain ⟨n1, n2, n3⟩ := dinv_next hM hJ (.inr (by rw [hP2e]; exact e2))
                by_cases e3 : 4294967296 ≤ f + a
                · have hG := n3 e3
                  clear n2 n3 hJ
                  obtain ⟨x, xe, xh, x0, x1⟩ := un21 (u := v) (c := d) hab b3.2 hG
                  have hq2 := quo_wrap ⟨hF.1, hF.2.1⟩ ⟨hG.1, hG.2.1⟩; have hq3 := quo_wrap1 ⟨hF.1, hF.2.1⟩ ⟨hG.1, hG.2.1⟩
                  go_wp2
                  go_ret2
                  obtain ⟨y0, y1, y2⟩ := div_fin hs0 z5 z6 hcd vh xh x0 x1
                  refine ⟨_, _, rfl, ⟨?_, ?_⟩, ⟨y0, y1⟩, y2, Below.refl _ _⟩
                  · have := hF.1; have := hG.1; omega
                  · have := hF.2.1; have := hG.2.1; omega
                · have hG := n2 (by omega)
                  clear n2 n3
                  go_wp2
                  go_round
                  case rel => exact ⟨j - 1, f + a, rfl, rfl, hG, by omega⟩
                  case measure => simp [intOf]; omega
              · have hG := dinv_done hM hJ (by omega) (by rw [hP2e]; omega)
                clear hJ
                obtain ⟨x, xe, xh, x0, x1⟩ := un21 (u := v) (c := d) hab b3.2 hG
                have hq2 := quo_wrap ⟨hF.1, hF.2.1⟩ ⟨hG.1, hG.2.1⟩; have hq3 := quo_wrap1 ⟨hF.1, hF.2.1⟩ ⟨hG.1, hG.2.1⟩
                go_wp2
                go_ret2
                obtain ⟨y0, y1, y2⟩ := div_fin hs0 z5 z6 hcd vh xh x0 x1
                refine ⟨_, _, rfl, ⟨?_, ?_⟩, ⟨y0, y1⟩, y2, Below.refl _ _⟩
                · have := hF.1; have := hG.1; omega
                · have := hF.2.1; have := hG.2.1; omega
        · have hF := n2 (by omega)
          clear n2 n3
          go_wp2
          go_round
          case rel => exact ⟨k - 1, r + a, rfl, rfl, hF, by omega⟩
          case measure => simp [intOf]; omega
      · have hF := dinv_done hN hI (by omega) (by rw [hPe]; omega)
        clear hI
        obtain ⟨v, hv, vh, v0, v1⟩ := un21 (u := u) (c := c) hab b3.2 hF
        have hM : DNorm a b d v := div_dnorm hab z4 b3 b4 b5 d4 d5 v1 v0
        obtain ⟨p, hp⟩ : ∃ p, v / a = p := ⟨_, rfl⟩
        obtain ⟨j1, j2, j3, j4⟩ := dinv_start hM hp
        have hvM : v < 18446744073709551616 := by omega
        go_wp2
        go_loop [18, 16] (fun x15 x16 => ∃ q r : Int, x15 = .int .u64 q ∧ x16 = .int .u64 r ∧ DInv v a b d q r ∧ q < 18446744073709551616) (fun x15 _ => (intOf x15).toNat)
        case atStart => exact ⟨p, _, by first | rfl | rw [hp], rfl, j1, by have := Int.ediv_le_self a v0; omega⟩
        case round =>
          clear j1 j2 j3 j4
          obtain ⟨j, f, rfl, rfl, hJ, hjM⟩ := hrel
          have hJ0 := hJ.1; have hJ2 := hJ.2.2.1; have hJ3 := hJ.2.2.2.1
          by_cases e1 : 4294967296 ≤ j
          · obtain ⟨n1, n2, n3⟩ := dinv_next hM hJ (.inl e1)
            by_cases e3 : 4294967296 ≤ f + a
            · have hG := n3 e3
              clear n2 n3 hJ
              obtain ⟨x, xe, xh, x0, x1⟩ := un21 (u := v) (c := d) hab b3.2 hG
              have hq2 := quo_wrap ⟨hF.1, hF.2.1⟩ ⟨hG.1, hG.2.1⟩; have hq3 := quo_wrap1 ⟨hF.1, hF.2.1⟩ ⟨hG.1, hG.2.1⟩
              go_wp2
              go_ret2
              obtain ⟨y0, y1, y2⟩ := div_fin hs0 z5 z6 hcd vh xh x0 x1
              refine ⟨_, _, rfl, ⟨?_, ?_⟩, ⟨y0, y1⟩, y2, Below.refl _ _⟩
              · have := hF.1; have := hG.1; omega
              · have := hF.2.1; have := hG.2.1; omega
            · have hG := n2 (by omega)
              clear n2 n3
              go_wp2
              go_round
              case rel => exact ⟨j - 1, f + a, rfl, rfl, hG, by omega⟩
              case measure => simp [intOf]; omega
          · have hP2 := dinv_prod hM hJ (by omega)
            obtain ⟨P2, hP2e⟩ : ∃ P, j * b = P := ⟨_, rfl⟩
            rw [hP2e] at hP2
            by_cases e2 : 4294967296 * f + d < P2
            · obtain ⟨n1, n2, n3⟩ := dinv_next hM hJ (.inr (by rw [hP2e]; exact e2))
              by_cases e3 : 4294967296 ≤ f + a
              · have hG := n3 e3
                clear n2 n3 hJ
                obtain ⟨x, xe, xh, x0, x1⟩ := un21 (u := v) (c := d) hab b3.2 hG
                have hq2 := quo_wrap ⟨hF.1, hF.2.1⟩ ⟨hG.1, hG.2.1⟩; have hq3 := quo_wrap1 ⟨hF.1, hF.2.1⟩ ⟨hG.1, hG.2.1⟩
                go_wp2
                go_ret2
                obtain ⟨y0, y1, y2⟩ := div_fin hs0 z5 z6 hcd vh xh x0 x1
                refine ⟨_, _, rfl, ⟨?_, ?_⟩, ⟨y0, y1⟩, y2, Below.refl _ _⟩
                · have := hF.1; have := hG.1; omega
                · have := hF.2.1; have := hG.2.1; omega
              · have hG := n2 (by omega)
                clear n2 n3
                go_wp2
                go_round
                case rel => exact ⟨j - 1, f + a, rfl, rfl, hG, by omega⟩
                case measure => simp [intOf]; omega
            · have hG := dinv_done hM hJ (by omega) (by rw [hP2e]; omega)
              clear hJ
              obtain ⟨x, xe, xh, x0, x1⟩ := un21 (u := v) (c := d) hab b3.2 hG
              have hq2 := quo_wrap ⟨hF.1, hF.2.1⟩ ⟨hG.1, hG.2.1⟩; have hq3 := quo_wrap1 ⟨hF.1, hF.2.1⟩ ⟨hG.1, hG.2.1⟩
              go_wp2
              go_ret2
              obtain ⟨y0, y1, y2⟩ := div_fin hs0 z5 z6 hcd vh xh x0 x1
              refine ⟨_, _, rfl, ⟨?_, ?_⟩, ⟨y0, y1⟩, y2, Below.refl _ _⟩
              · have := hF.1; have := hG.1; omega
              · have := hF.2.1; have := hG.2.1; omega
end Go.Proofs.Ytmfnfnegnfpkiaa
