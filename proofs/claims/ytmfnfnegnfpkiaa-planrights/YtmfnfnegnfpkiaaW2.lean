
/- num.dividePart. -/
import Derived.Test.YtmfnfnegnfpkiaaW1
set_option linter.unusedSimpArgs false
set_option linter.unusedVariables false
set_option maxRecDepth 20000
namespace Go.Proofs.Ytmfnfnegnfpkiaa
open Go.RowKit

/-- Between two rounds: what is left is told by the low parts, the top one, and whether it is below nought. -/
def PInv (N C g l t un : Int) : Prop := 0 ≤ g ∧ N < (g + 1) * C ∧ N - g * C = l + t * 115792089237316195423570985008687907853269984665640564039457584007913129639936 - un * 2135987035920910082395021706169552114602704522356652769947041607822219725780640550022962086936576

theorem part_start {r0 r1 r2 r3 n c0 c1 c2 c3 g k0 k1 k2 k3 tp l0 l1 l2 l3 bo tv un : Int}
    (e1 : Hid (val c0 c1 c2 c3 * g + 0 = val k0 k1 k2 k3 + tp * 115792089237316195423570985008687907853269984665640564039457584007913129639936))
    (e2 : Hid (val n r0 r1 r2 - val k0 k1 k2 k3 = val l0 l1 l2 l3 - bo * 115792089237316195423570985008687907853269984665640564039457584007913129639936))
    (e3 : Hid (r3 - tp - bo = tv - un * 18446744073709551616)) (hg : 0 ≤ g) (hk : val r0 r1 r2 r3 * 18446744073709551616 + n < (g + 1) * val c0 c1 c2 c3) :
    PInv (val r0 r1 r2 r3 * 18446744073709551616 + n) (val c0 c1 c2 c3) g (val l0 l1 l2 l3) tv un := by
  unfold Hid at *
  refine ⟨hg, hk, ?_⟩
  rw [Int.mul_comm g]
  generalize val c0 c1 c2 c3 * g = A at *
  unfold val at *
  omega

theorem part_next {N C g l t l' t' ca cb : Int} (h : PInv N C g l t 1) (hN : 0 ≤ N) (hC : 0 < C) (hl : 0 ≤ l ∧ l < 115792089237316195423570985008687907853269984665640564039457584007913129639936) (ht : 0 ≤ t ∧ t < 18446744073709551616)
    (e1 : Hid (l + C = l' + ca * 115792089237316195423570985008687907853269984665640564039457584007913129639936)) (e2 : Hid (t + 0 + ca = t' + cb * 18446744073709551616)) :
    1 ≤ g ∧ PInv N C (g - 1) l' t' (1 - cb) := by
  obtain ⟨h1, h2, h3⟩ := h
  unfold Hid at *
  have hneg : N - g * C < 0 := by rw [h3]; omega
  have hg : 1 ≤ g := by
    by_cases e : g = 0
    · subst e; omega
    · omega
  have e3 : (g - 1) * C = g * C - C := by rw [Int.sub_mul]; omega
  refine ⟨hg, by omega, ?_, ?_⟩
  · rw [show g - 1 + 1 = g by omega]; omega
  · rw [e3]
    generalize g * C = A at *
    omega

theorem part_pos {N C g l t : Int} (h : PInv N C g l t 1) (hN : 0 ≤ N) (hl : 0 ≤ l ∧ l < 115792089237316195423570985008687907853269984665640564039457584007913129639936) (ht : 0 ≤ t ∧ t < 18446744073709551616) : 1 ≤ g := by
  obtain ⟨h1, h2, h3⟩ := h
  by_cases e : g = 0
  · subst e; omega
  · omega

theorem part_done {N C g l t : Int} (h : PInv N C g l t 0) (hC : C < 115792089237316195423570985008687907853269984665640564039457584007913129639936) (hl : 0 ≤ l ∧ l < 115792089237316195423570985008687907853269984665640564039457584007913129639936) (ht : 0 ≤ t) :
    N = g * C + l ∧ l < C := by
  obtain ⟨h1, h2, h3⟩ := h
  rw [Int.add_mul] at h2
  generalize g * C = A at *
  have : t = 0 := by omega
  subst this
  omega

set_option maxHeartbeats 4000000 in
theorem part_any (r0 r1 r2 r3 n c0 c1 c2 c3 : Int) (hr : Lim r0 r1 r2 r3) (hn : 0 ≤ n ∧ n < 18446744073709551616) (hc : Lim c0 c1 c2 c3) (hC : 9223372036854775808 ≤ c3) (hlt : val r0 r1 r2 r3 < val c0 c1 c2 c3) (w : World) :
    Calls Try.prog 122 #[.agg #[.int .u64 r0, .int .u64 r1, .int .u64 r2, .int .u64 r3], .int .u64 n, .agg #[.int .u64 c0, .int .u64 c1, .int .u64 c2, .int .u64 c3]] w fun e w' =>
      ∃ q z0 z1 z2 z3 : Int, e = .returned (.tuple #[.int .u64 q, .agg #[.int .u64 z0, .int .u64 z1, .int .u64 z2, .int .u64 z3]]) ∧ (0 ≤ q ∧ q < 18446744073709551616) ∧ Lim z0 z1 z2 z3 ∧
        Hid (val r0 r1 r2 r3 * 18446744073709551616 + n = q * val c0 c1 c2 c3 + val z0 z1 z2 z3 ∧ val z0 z1 z2 z3 < val c0 c1 c2 c3) ∧ Below w.heap.size w w' := by
  have hpad := pads
  have hr' := hr; have hc' := hc
  obtain ⟨hr0, hr1, hr2, hr3⟩ := hr
  obtain ⟨hc0, hc1, hc2, hc3⟩ := hc
  have hlt' : Hid _ := hlt
  by_cases h3 : r3 < c3
  · go_enter Try.func122, Try.ntmps122
    go_wp2_with (first
      | (go_at_call 129; refine (div64_any r3 r2 c3 hr3.1 h3 hc3.2 hr2 _).mono ?_; rintro e w1 ⟨g, t, rfl, hg, ht, eg, hb⟩; obtain ⟨m1, g1, d1, hm1, rfl⟩ := pad_of hb; clear hb; (try simp [pad_size] at hm1); have st1_w := sz3 (n := w.heap.size) (m := m1) (by omega); have hk : Hid _ := guess_ok (g := g) hr' hc' hn hC hlt'.out (.inl ⟨h3, eg.out, ht.1, ht.2, hg.1⟩))
      | (go_at_call 115; refine (scale_any c0 c1 c2 c3 g 0 hc' hg ⟨by omega, by omega⟩ _).mono ?_; rintro e w1 ⟨k0, k1, k2, k3, tp, rfl, bk, btp, e1, hb⟩; obtain ⟨m2, g2, d2, hm2, rfl⟩ := pad_of (bt (bp (Below.refl _ _) (by first | omega | (simp [pad_size]; omega)) _ _) hb); clear hb; (try simp [pad_size] at hm2); have st2_w := sz3 (n := w.heap.size) (m := m2) (by omega); clear st1_w hm1)
      | (go_at_call 123; refine (minus_any n r0 r1 r2 k0 k1 k2 k3 ⟨hn, hr0, hr1, hr2⟩ bk _).mono ?_; rintro e w1 ⟨l0, l1, l2, l3, bo, rfl, bl, bo0, bo1, e2, hb⟩; obtain ⟨m3, g3, d3, hm3, rfl⟩ := pad_of (bt (ba (bp (Below.refl _ _) (by first | omega | (simp [pad_size]; omega)) _ _) _) hb); clear hb; (try simp [pad_size] at hm3); have st3_w := sz3 (n := w.heap.size) (m := m3) (by omega); clear st2_w hm2; obtain ⟨tv, un, btv, un0, un1, e3, ks⟩ := sub64_ex r3 tp bo hr3 btp bo0 bo1; have hI := part_start e1 e2 e3 hg.1 hk.out))
    go_loopw [8, 13, 14] (fun x8 x13 x14 wr => ∃ (g t un a0 a1 a2 a3 : Int) (m4 : Nat) (g4 : Nat → Obj) (d4 : Nat), x8 = .int .u64 g ∧ x13 = .int .u64 t ∧ x14 = .int .u64 un ∧ (0 ≤ g ∧ g < 18446744073709551616) ∧ (0 ≤ t ∧ t < 18446744073709551616) ∧ 0 ≤ un ∧ un ≤ 1 ∧ Lim a0 a1 a2 a3 ∧ m3 + 1 ≤ m4 ∧ wr = pad ((pad (((w.alloc (.cells #[.int .u64 r0, .int .u64 r1, .int .u64 r2, .int .u64 r3] 69)).alloc (.cells #[.int .u64 c0, .int .u64 c1, .int .u64 c2, .int .u64 c3] 69)).alloc (.cells #[.int .u64 0, .int .u64 0, .int .u64 0, .int .u64 0] 69)) m3 g3 d3).alloc (.cells #[.int .u64 a0, .int .u64 a1, .int .u64 a2, .int .u64 a3] 69)) m4 g4 d4 ∧ PInv (val r0 r1 r2 r3 * 18446744073709551616 + n) (val c0 c1 c2 c3) g (val a0 a1 a2 a3) t un) (fun x8 _ _ _ => (intOf x8).toNat)
    case atStart =>
      obtain ⟨m4, g4, d4, hm4, e4⟩ := pad_of (Below.refl _ ((pad (((w.alloc (.cells #[.int .u64 r0, .int .u64 r1, .int .u64 r2, .int .u64 r3] 69)).alloc (.cells #[.int .u64 c0, .int .u64 c1, .int .u64 c2, .int .u64 c3] 69)).alloc (.cells #[.int .u64 0, .int .u64 0, .int .u64 0, .int .u64 0] 69)) m3 g3 d3).alloc (.cells #[.int .u64 l0, .int .u64 l1, .int .u64 l2, .int .u64 l3] 69)))
      exact ⟨_, tv, un, l0, l1, l2, l3, m4, g4, d4, rfl, rfl, rfl, hg, btv, un0, un1, bl, by simpa [pad_size] using hm4, e4, hI⟩
    case round =>
      clear hI ks e1 e2 e3
      obtain ⟨g', t', un', a0, a1, a2, a3, m4, g4, d4, rfl, rfl, rfl, hg', ht', un0', un1', ba', hm4, rfl, hI⟩ := hrel
      have st4 := sz1 (n := m3) (m := m4) hm4
      have st5 := sz3 (n := w.heap.size) (m := m4) (by omega)
      rcases (show un' = 0 ∨ un' = 1 by omega) with rfl | rfl
      · obtain ⟨f1, f2⟩ := part_done hI (val_hi hc') ⟨val_lo ba', val_hi ba'⟩ ht'.1
        have f1 : Hid _ := f1
        go_wp2
        go_region
        all_goals go_wp2
        all_goals refine bodyPost_ret (v := .tuple #[.int .u64 g', .agg #[.int .u64 a0, .int .u64 a1, .int .u64 a2, .int .u64 a3]]) (by simp only [results, Try.results122]; go_simp) rfl ⟨g', a0, a1, a2, a3, rfl, hg', ba', ⟨f1.out, f2⟩, ?_⟩
        all_goals (repeat (first | (with_reducible exact Below.refl _ _) | (with_reducible assumption) | (with_reducible apply bd) | (with_reducible apply ba) | (with_reducible refine bp ?_ (by first | omega | (simp [pad_size]; done) | (simp [pad_size]; omega)) _ _) | (with_reducible refine bs ?_ (by first | omega | (simp [pad_size]; done) | (simp [pad_size]; omega)) _) | (with_reducible refine bt ?_ (by assumption))))
      · have hCpos : 0 < val c0 c1 c2 c3 := by have := val_lo hr'; omega
        have n0 : 1 ≤ g' := part_pos hI (by have := val_lo hr'; omega) ⟨val_lo ba', val_hi ba'⟩ ht'
        go_wp2_with (first
          | (go_at_call 116; refine (plus_any a0 a1 a2 a3 c0 c1 c2 c3 ba' hc' _).mono ?_; rintro e w1 ⟨b0, b1, b2, b3, ca, rfl, bb, ca0, ca1, e5, hb⟩; obtain ⟨m5, g5, d5, hm5, rfl⟩ := pad_of (bt (bp (Below.refl _ ((pad (((w.alloc (.cells #[.int .u64 r0, .int .u64 r1, .int .u64 r2, .int .u64 r3] 69)).alloc (.cells #[.int .u64 c0, .int .u64 c1, .int .u64 c2, .int .u64 c3] 69)).alloc (.cells #[.int .u64 0, .int .u64 0, .int .u64 0, .int .u64 0] 69)) m3 g3 d3).alloc (.cells #[.int .u64 a0, .int .u64 a1, .int .u64 a2, .int .u64 a3] 69))) (by simp [pad_size]; omega) g4 d4) hb); clear hb; simp [pad_size] at hm5; have st6 := sz1 (n := m3) (m := m5) (by omega); have st7 := sz3 (n := w.heap.size) (m := m5) (by omega); obtain ⟨t2, cb, bt2, cb0, cb1, e6, ks2⟩ := add64_ex t' 0 ca ht' ⟨by omega, by omega⟩ ca0 ca1; obtain ⟨n1, hI2⟩ := part_next hI (by have := val_lo hr'; omega) hCpos ⟨val_lo ba', val_hi ba'⟩ ht' e5 e6))
        go_roundw
        case rel => exact ⟨g' - 1, t2, 1 - cb, b0, b1, b2, b3, m5, g5, _, rfl, rfl, rfl, ⟨by omega, by omega⟩, bt2, by omega, by omega, bb, hm5, rfl, hI2⟩
        case measure => simp [intOf]; omega
  · go_enter Try.func122, Try.ntmps122
    have hk : Hid _ := guess_ok (g := 18446744073709551615) (t := 0) hr' hc' hn hC hlt'.out (.inr ⟨by omega, rfl⟩)
    go_wp2_with (first
      | (go_at_call 115; refine (scale_any c0 c1 c2 c3 18446744073709551615 0 hc' ⟨by omega, by omega⟩ ⟨by omega, by omega⟩ _).mono ?_; rintro e w1 ⟨k0, k1, k2, k3, tp, rfl, bk, btp, e1, hb⟩; obtain ⟨m2, g2, d2, hm2, rfl⟩ := pad_of hb; clear hb; (try simp [pad_size] at hm2); have st2_w := sz3 (n := w.heap.size) (m := m2) (by omega))
      | (go_at_call 123; refine (minus_any n r0 r1 r2 k0 k1 k2 k3 ⟨hn, hr0, hr1, hr2⟩ bk _).mono ?_; rintro e w1 ⟨l0, l1, l2, l3, bo, rfl, bl, bo0, bo1, e2, hb⟩; obtain ⟨m3, g3, d3, hm3, rfl⟩ := pad_of (bt (ba (bp (Below.refl _ _) (by first | omega | (simp [pad_size]; omega)) _ _) _) hb); clear hb; (try simp [pad_size] at hm3); have st3_w := sz3 (n := w.heap.size) (m := m3) (by omega); clear st2_w hm2; obtain ⟨tv, un, btv, un0, un1, e3, ks⟩ := sub64_ex r3 tp bo hr3 btp bo0 bo1; have hI := part_start e1 e2 e3 (by omega) hk.out))
    go_loopw [8, 13, 14] (fun x8 x13 x14 wr => ∃ (g t un a0 a1 a2 a3 : Int) (m4 : Nat) (g4 : Nat → Obj) (d4 : Nat), x8 = .int .u64 g ∧ x13 = .int .u64 t ∧ x14 = .int .u64 un ∧ (0 ≤ g ∧ g < 18446744073709551616) ∧ (0 ≤ t ∧ t < 18446744073709551616) ∧ 0 ≤ un ∧ un ≤ 1 ∧ Lim a0 a1 a2 a3 ∧ m3 + 1 ≤ m4 ∧ wr = pad ((pad (((w.alloc (.cells #[.int .u64 r0, .int .u64 r1, .int .u64 r2, .int .u64 r3] 69)).alloc (.cells #[.int .u64 c0, .int .u64 c1, .int .u64 c2, .int .u64 c3] 69)).alloc (.cells #[.int .u64 0, .int .u64 0, .int .u64 0, .int .u64 0] 69)) m3 g3 d3).alloc (.cells #[.int .u64 a0, .int .u64 a1, .int .u64 a2, .int .u64 a3] 69)) m4 g4 d4 ∧ PInv (val r0 r1 r2 r3 * 18446744073709551616 + n) (val c0 c1 c2 c3) g (val a0 a1 a2 a3) t un) (fun x8 _ _ _ => (intOf x8).toNat)
    case atStart =>
      obtain ⟨m4, g4, d4, hm4, e4⟩ := pad_of (Below.refl _ ((pad (((w.alloc (.cells #[.int .u64 r0, .int .u64 r1, .int .u64 r2, .int .u64 r3] 69)).alloc (.cells #[.int .u64 c0, .int .u64 c1, .int .u64 c2, .int .u64 c3] 69)).alloc (.cells #[.int .u64 0, .int .u64 0, .int .u64 0, .int .u64 0] 69)) m3 g3 d3).alloc (.cells #[.int .u64 l0, .int .u64 l1, .int .u64 l2, .int .u64 l3] 69)))
      exact ⟨_, tv, un, l0, l1, l2, l3, m4, g4, d4, rfl, rfl, rfl, ⟨by omega, by omega⟩, btv, un0, un1, bl, by simpa [pad_size] using hm4, e4, hI⟩
    case round =>
      clear hI ks e1 e2 e3
      obtain ⟨g', t', un', a0, a1, a2, a3, m4, g4, d4, rfl, rfl, rfl, hg', ht', un0', un1', ba', hm4, rfl, hI⟩ := hrel
      have st4 := sz1 (n := m3) (m := m4) hm4
      have st5 := sz3 (n := w.heap.size) (m := m4) (by omega)
      rcases (show un' = 0 ∨ un' = 1 by omega) with rfl | rfl
      · obtain ⟨f1, f2⟩ := part_done hI (val_hi hc') ⟨val_lo ba', val_hi ba'⟩ ht'.1
        have f1 : Hid _ := f1
        go_wp2
        go_region
        all_goals go_wp2
        all_goals refine bodyPost_ret (v := .tuple #[.int .u64 g', .agg #[.int .u64 a0, .int .u64 a1, .int .u64 a2, .int .u64 a3]]) (by simp only [results, Try.results122]; go_simp) rfl ⟨g', a0, a1, a2, a3, rfl, hg', ba', ⟨f1.out, f2⟩, ?_⟩
        all_goals (repeat (first | (with_reducible exact Below.refl _ _) | (with_reducible assumption) | (with_reducible apply bd) | (with_reducible apply ba) | (with_reducible refine bp ?_ (by first | omega | (simp [pad_size]; done) | (simp [pad_size]; omega)) _ _) | (with_reducible refine bs ?_ (by first | omega | (simp [pad_size]; done) | (simp [pad_size]; omega)) _) | (with_reducible refine bt ?_ (by assumption))))
      · have hCpos : 0 < val c0 c1 c2 c3 := by have := val_lo hr'; omega
        have n0 : 1 ≤ g' := part_pos hI (by have := val_lo hr'; omega) ⟨val_lo ba', val_hi ba'⟩ ht'
        go_wp2_with (first
          | (go_at_call 116; refine (plus_any a0 a1 a2 a3 c0 c1 c2 c3 ba' hc' _).mono ?_; rintro e w1 ⟨b0, b1, b2, b3, ca, rfl, bb, ca0, ca1, e5, hb⟩; obtain ⟨m5, g5, d5, hm5, rfl⟩ := pad_of (bt (bp (Below.refl _ ((pad (((w.alloc (.cells #[.int .u64 r0, .int .u64 r1, .int .u64 r2, .int .u64 r3] 69)).alloc (.cells #[.int .u64 c0, .int .u64 c1, .int .u64 c2, .int .u64 c3] 69)).alloc (.cells #[.int .u64 0, .int .u64 0, .int .u64 0, .int .u64 0] 69)) m3 g3 d3).alloc (.cells #[.int .u64 a0, .int .u64 a1, .int .u64 a2, .int .u64 a3] 69))) (by simp [pad_size]; omega) g4 d4) hb); clear hb; simp [pad_size] at hm5; have st6 := sz1 (n := m3) (m := m5) (by omega); have st7 := sz3 (n := w.heap.size) (m := m5) (by omega); obtain ⟨t2, cb, bt2, cb0, cb1, e6, ks2⟩ := add64_ex t' 0 ca ht' ⟨by omega, by omega⟩ ca0 ca1; obtain ⟨n1, hI2⟩ := part_next hI (by have := val_lo hr'; omega) hCpos ⟨val_lo ba', val_hi ba'⟩ ht' e5 e6))
        go_roundw
        case rel => exact ⟨g' - 1, t2, 1 - cb, b0, b1, b2, b3, m5, g5, _, rfl, rfl, rfl, ⟨by omega, by omega⟩, bt2, by omega, by omega, bb, hm5, rfl, hI2⟩
        case measure => simp [intOf]; omega
end Go.Proofs.Ytmfnfnegnfpkiaa
