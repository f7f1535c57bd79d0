
/- law01.wide: is a product at most another one? num.MulDiv where the answer is known. -/
import Derived.Test.YtkeimndlcagbbaaD9
set_option linter.unusedSimpArgs false
set_option linter.unusedVariables false
namespace Go.Proofs.Ytkeimndlcagbbaa
open Go.RowKit

theorem sm_below {a b : Nat → Int} {k : Nat} (hk : a k < b k) (ha : ∀ i, i < k → 0 ≤ a i ∧ a i < 65536) (hb : ∀ i, i < k → 0 ≤ b i ∧ b i < 65536) : ∀ d, (∀ j, k < j → j < k + 1 + d → a j = b j) → sm a (k + 1 + d) < sm b (k + 1 + d)
  | 0, _ => by
    have h1 := sm_lim k ha
    have h2 := sm_lim k hb
    show sm a (k + 1) < sm b (k + 1)
    rw [sm_succ, sm_succ]
    generalize (65536 : Int) ^ k = B at *
    have h3 : (a k + 1) * B ≤ b k * B := Int.mul_le_mul_of_nonneg_right (by omega) (by omega)
    rw [Int.add_mul] at h3
    omega
  | d + 1, h => by
    have h1 := sm_below hk ha hb d (fun j h1 h2 => h j h1 (by omega))
    show sm a (k + 1 + d + 1) < sm b (k + 1 + d + 1)
    rw [sm_succ, sm_succ, h (k + 1 + d) (by omega) (by omega)]
    omega
theorem sm_less {a b : Nat → Int} {n k : Nat} (hn : k < n) (hk : a k < b k) (ha : ∀ i, i < n → 0 ≤ a i ∧ a i < 65536) (hb : ∀ i, i < n → 0 ≤ b i ∧ b i < 65536) (h : ∀ j, k < j → j < n → a j = b j) : sm a n < sm b n := by
  obtain ⟨d, rfl⟩ := Nat.exists_eq_add_of_le (show k + 1 ≤ n by omega)
  exact sm_below hk (fun i hi => ha i (by omega)) (fun i hi => hb i (by omega)) d h

theorem wide_c (x0 x1 x2 x3 y0 y1 y2 y3 : Int) (hx : Lim x0 x1 x2 x3) (hy : Lim y0 y1 y2 y3) (w : World) :
    Calls Try.prog 47 #[.agg #[.int .u64 x0, .int .u64 x1, .int .u64 x2, .int .u64 x3], .agg #[.int .u64 y0, .int .u64 y1, .int .u64 y2, .int .u64 y3]] w fun e w' => ∃ (dl : Nat → Int) (g cap : Nat), e = .returned (.slice (some ⟨g, 0, none⟩) 32 cap) ∧ g < w'.heap.size ∧ (∀ k, k < 32 → w'.cell? ⟨g, k, none⟩ = some (.int .u64 (dl k))) ∧ (∀ i, i < 32 → 0 ≤ dl i ∧ dl i < 65536) ∧ Hid (sm dl 32 = val x0 x1 x2 x3 * val y0 y1 y2 y3) ∧ Below w.heap.size w w' := by
  refine (wide_any _ _ _ _ _ _ _ _ hx hy w).mono ?_
  rintro e w' ⟨dl, g, cap, rfl, hr, hl, hs, hb⟩
  obtain ⟨hgl, hcs⟩ := row_cells (n := 31) hr
  exact ⟨dl, g, cap, rfl, hgl, hcs, hl, hs, hb⟩

set_option maxRecDepth 100000 in
set_option maxHeartbeats 8000000 in
theorem wideL_any (x0 x1 x2 x3 y0 y1 y2 y3 z0 z1 z2 z3 u0 u1 u2 u3 : Int) (hx : Lim x0 x1 x2 x3) (hy : Lim y0 y1 y2 y3) (hz : Lim z0 z1 z2 z3) (hu : Lim u0 u1 u2 u3) (w : World) :
    Calls Try.prog 27 #[.agg #[.int .u64 x0, .int .u64 x1, .int .u64 x2, .int .u64 x3], .agg #[.int .u64 y0, .int .u64 y1, .int .u64 y2, .int .u64 y3], .agg #[.int .u64 z0, .int .u64 z1, .int .u64 z2, .int .u64 z3], .agg #[.int .u64 u0, .int .u64 u1, .int .u64 u2, .int .u64 u3]] w fun e w' => e = .returned (.bool (decide (val x0 x1 x2 x3 * val y0 y1 y2 y3 ≤ val z0 z1 z2 z3 * val u0 u1 u2 u3))) ∧ Below w.heap.size w w' := by
  have hpad := pads
  go_enter Try.func27, Try.ntmps27
  go_upto_region 1 with fail
  go_cut [9, 10] from 12 to 17 (fun s9 s10 wx => ∃ (dl de : Nat → Int) (g1 c1 g2 c2 : Nat), s9 = .slice (some ⟨g1, 0, none⟩) 32 c1 ∧ s10 = .slice (some ⟨g2, 0, none⟩) 32 c2 ∧ g1 < wx.heap.size ∧ g2 < wx.heap.size ∧ (∀ k, k < 32 → wx.cell? ⟨g1, k, none⟩ = some (.int .u64 (dl k))) ∧ (∀ k, k < 32 → wx.cell? ⟨g2, k, none⟩ = some (.int .u64 (de k))) ∧ (∀ i, i < 32 → 0 ≤ dl i ∧ dl i < 65536) ∧ (∀ i, i < 32 → 0 ≤ de i ∧ de i < 65536) ∧ Hid (sm dl 32 = val x0 x1 x2 x3 * val y0 y1 y2 y3) ∧ Hid (sm de 32 = val z0 z1 z2 z3 * val u0 u1 u2 u3) ∧ Below w.heap.size w wx)
  case first =>
    go_region_held2 (fun W => W.cell? ⟨w.heap.size, 0, none⟩ = some (.int .u64 x0) ∧ W.cell? ⟨w.heap.size, 1, none⟩ = some (.int .u64 x1) ∧ W.cell? ⟨w.heap.size, 2, none⟩ = some (.int .u64 x2) ∧ W.cell? ⟨w.heap.size, 3, none⟩ = some (.int .u64 x3) ∧ W.cell? ⟨w.heap.size + 1, 0, none⟩ = some (.int .u64 y0) ∧ W.cell? ⟨w.heap.size + 1, 1, none⟩ = some (.int .u64 y1) ∧ W.cell? ⟨w.heap.size + 1, 2, none⟩ = some (.int .u64 y2) ∧ W.cell? ⟨w.heap.size + 1, 3, none⟩ = some (.int .u64 y3) ∧ W.cell? ⟨w.heap.size + 1 + 1, 0, none⟩ = some (.int .u64 z0) ∧ W.cell? ⟨w.heap.size + 1 + 1, 1, none⟩ = some (.int .u64 z1) ∧ W.cell? ⟨w.heap.size + 1 + 1, 2, none⟩ = some (.int .u64 z2) ∧ W.cell? ⟨w.heap.size + 1 + 1, 3, none⟩ = some (.int .u64 z3) ∧ W.cell? ⟨w.heap.size + 1 + 1 + 1, 0, none⟩ = some (.int .u64 u0) ∧ W.cell? ⟨w.heap.size + 1 + 1 + 1, 1, none⟩ = some (.int .u64 u1) ∧ W.cell? ⟨w.heap.size + 1 + 1 + 1, 2, none⟩ = some (.int .u64 u2) ∧ W.cell? ⟨w.heap.size + 1 + 1 + 1, 3, none⟩ = some (.int .u64 u3)) (go_simp) (first
      | (go_at_call 47; with_reducible refine (wide_c _ _ _ _ _ _ _ _ hx hy _).mono ?_; rintro e w1 ⟨dl, r1, cap1, rfl, hg1, hc1, hl1, hs1, hb1⟩; obtain ⟨m1, g1, d1, hm1, rfl⟩ := pad_of hb1; clear hb1; (try simp [pad_size] at hm1); have st1_w := sz4 (n := w.heap.size) (m := m1) (by omega))
      | (go_at_call 47; with_reducible refine (wide_c _ _ _ _ _ _ _ _ hz hu _).mono ?_; rintro e w2 ⟨de, r2, cap2, rfl, hg2, hc2, hl2, hs2, hb2⟩; have hb3 := hb2; obtain ⟨m2, g2, d2, hm2, rfl⟩ := pad_of (bt (bp (Below.refl _ _) (by first | omega | (simp [pad_size]; omega)) _ _) hb2); clear hb2; (try simp [pad_size] at hm2); have st2_w := sz4 (n := w.heap.size) (m := m2) (by omega)))
    all_goals (go_wp2_with fail; go_meet)
    all_goals exact ⟨dl, de, r1, cap1, r2, cap2, rfl, rfl, Nat.lt_of_lt_of_le hg1 hb3.size, hg2, fun k hk => (hb3.cell (p := ⟨r1, k, none⟩) hg1).trans (hc1 k hk), hc2, hl1, hl2, hs1, hs2, by (repeat (first | (with_reducible exact Below.refl _ _) | (with_reducible assumption) | (with_reducible apply bd) | (with_reducible apply ba) | (with_reducible refine bp ?_ (by first | omega | (simp [pad_size]; done) | (simp [pad_size]; omega)) _ _) | (with_reducible refine bs ?_ (by first | omega | (simp [pad_size]; done) | (simp [pad_size]; omega)) _) | (with_reducible refine bt ?_ (by assumption))))⟩
  case rest =>
    obtain ⟨dl, de, g1, c1, g2, c2, rfl, rfl, hg1, hg2, hc1, hc2, hl1, hl2, hs1, hs2, hB⟩ := hcut
    have hret : ∀ c : Bool, c = decide (sm dl 32 ≤ sm de 32) → ∀ wz, Below wc.heap.size wc wz → (Ending.returned (.bool c) = .returned (.bool (decide (val x0 x1 x2 x3 * val y0 y1 y2 y3 ≤ val z0 z1 z2 z3 * val u0 u1 u2 u3))) ∧ Below w.heap.size w wz) := by
      rintro c rfl wz hbz; rw [hs1.out, hs2.out]; exact ⟨rfl, bt hB hbz⟩
    go_wp2
    go_loopw [11] (fun i wr => ∃ (k m : Nat) (f : Nat → Obj) (dr : Nat), k ≤ 32 ∧ i = .int .i64 ((k : Int) - 1) ∧ wc.heap.size ≤ m ∧ wr = pad wc m f dr ∧ (∀ j, k ≤ j → j < 32 → Hid (dl j = de j))) (fun i _ => (intOf i + 1).toNat)
    case atStart =>
      obtain ⟨m, f, dr, hm, e⟩ := pad_of (Below.refl wc.heap.size wc)
      exact ⟨32, m, f, dr, by omega, rfl, hm, e, fun j h1 h2 => by omega⟩
    case round =>
      obtain ⟨k, m, f, dr, hk, rfl, hm, rfl, hpre⟩ := hrel
      cases k with
      | zero =>
        go_wp2
        go_ret
        refine hret _ ?_ _ (by (repeat (first | (with_reducible exact Below.refl _ _) | (with_reducible assumption) | (with_reducible apply bd) | (with_reducible apply ba) | (with_reducible refine bp ?_ (by first | omega | (simp [pad_size]; done) | (simp [pad_size]; omega)) _ _) | (with_reducible refine bs ?_ (by first | omega | (simp [pad_size]; done) | (simp [pad_size]; omega)) _) | (with_reducible refine bt ?_ (by assumption)))))
        rw [sm_congr 32 (fun i hi => (hpre i (Nat.zero_le _) hi).out)]
        simp
      | succ j =>
        have e : (((j + 1 : Nat) : Int) - 1) = (j : Int) := by omega
        rw [e]
        clear e
        have hj : j < 32 := by omega
        have d1 := hc1 j hj
        have d2 := hc2 j hj
        have hg1m : g1 < m := by omega
        have hg2m : g2 < m := by omega
        have b1 := hl1 j hj
        have b2 := hl2 j hj
        clear hc1 hc2
        rcases Int.lt_trichotomy (dl j) (de j) with hlt | he | hgt
        · have hne : (dl j != de j) = true := by simp; omega
          have hdc : decide (dl j < de j) = true := by simpa using hlt
          go_wp2
          go_region
          all_goals go_wp2
          all_goals go_region
          all_goals go_wp2
          all_goals go_ret
          all_goals
            refine hret _ ?_ _ (by (repeat (first | (with_reducible exact Below.refl _ _) | (with_reducible assumption) | (with_reducible apply bd) | (with_reducible apply ba) | (with_reducible refine bp ?_ (by first | omega | (simp [pad_size]; done) | (simp [pad_size]; omega)) _ _) | (with_reducible refine bs ?_ (by first | omega | (simp [pad_size]; done) | (simp [pad_size]; omega)) _) | (with_reducible refine bt ?_ (by assumption)))))
            have h := sm_less hj hlt hl1 hl2 (fun i h1 h2 => (hpre i (by omega) h2).out)
            exact (decide_eq_true (by omega)).symm
        · have he' : Hid _ := he
          rw [← he] at d2
          have hne : (dl j != dl j) = false := by simp
          clear he
          go_wp2
          go_region
          all_goals go_wp2
          all_goals go_roundw
          case rel =>
            refine ⟨j, m, f, dr + 1, by omega, by go_num, hm, by first | rfl | (simp [hpad]; done), fun i h1 h2 => ?_⟩
            by_cases e : i = j
            · rw [e]; exact he'
            · exact hpre i (by omega) h2
          case measure => simp [intOf]
        · have hne : (dl j != de j) = true := by simp; omega
          have hdc : decide (dl j < de j) = false := by simp; omega
          go_wp2
          go_region
          all_goals go_wp2
          all_goals go_region
          all_goals go_wp2
          all_goals go_ret
          all_goals
            refine hret _ ?_ _ (by (repeat (first | (with_reducible exact Below.refl _ _) | (with_reducible assumption) | (with_reducible apply bd) | (with_reducible apply ba) | (with_reducible refine bp ?_ (by first | omega | (simp [pad_size]; done) | (simp [pad_size]; omega)) _ _) | (with_reducible refine bs ?_ (by first | omega | (simp [pad_size]; done) | (simp [pad_size]; omega)) _) | (with_reducible refine bt ?_ (by assumption)))))
            have h := sm_less hj hgt hl2 hl1 (fun i h1 h2 => (hpre i (by omega) h2).out.symm)
            exact (decide_eq_false (by omega)).symm

theorem says_wide {x0 x1 x2 x3 y0 y1 y2 y3 z0 z1 z2 z3 u0 u1 u2 u3 : Int} {b : Bool} (hx : Lim x0 x1 x2 x3) (hy : Lim y0 y1 y2 y3) (hz : Lim z0 z1 z2 z3) (hu : Lim u0 u1 u2 u3) (h : decide (val x0 x1 x2 x3 * val y0 y1 y2 y3 ≤ val z0 z1 z2 z3 * val u0 u1 u2 u3) = b) :
    Says 27 #[.agg #[.int .u64 x0, .int .u64 x1, .int .u64 x2, .int .u64 x3], .agg #[.int .u64 y0, .int .u64 y1, .int .u64 y2, .int .u64 y3], .agg #[.int .u64 z0, .int .u64 z1, .int .u64 z2, .int .u64 z3], .agg #[.int .u64 u0, .int .u64 u1, .int .u64 u2, .int .u64 u3]] (.bool b) := by
  subst h; exact fun w => wideL_any _ _ _ _ _ _ _ _ _ _ _ _ _ _ _ _ hx hy hz hu w
theorem says_small (n : Int) : Says 28 #[.int .u64 n] (.agg #[.int .u64 n, .int .u64 0, .int .u64 0, .int .u64 0]) := by
  intro w
  go_enter Try.func28, Try.ntmps28
  go_wp2
  refine bodyPost_ret (v := .agg #[.int .u64 n, .int .u64 0, .int .u64 0, .int .u64 0]) (by simp [results, Try.results28, go_sem]) rfl ⟨rfl, ?_⟩
  exact (Below.refl _ _).alloc (Nat.le_refl _) _

/-- num.MulDiv where the answer is known. -/
theorem says_md_zero {x0 x1 x2 x3 y0 y1 y2 y3 u0 u1 u2 u3 : Int} (up : Bool) (hx : Lim x0 x1 x2 x3) (hy : Lim y0 y1 y2 y3) (hu : Lim u0 u1 u2 u3) (h0 : val u0 u1 u2 u3 = 0) :
    Says 25 #[.agg #[.int .u64 x0, .int .u64 x1, .int .u64 x2, .int .u64 x3], .agg #[.int .u64 y0, .int .u64 y1, .int .u64 y2, .int .u64 y3], .agg #[.int .u64 u0, .int .u64 u1, .int .u64 u2, .int .u64 u3], .bool up] (.tuple #[.agg #[.int .u64 0, .int .u64 0, .int .u64 0, .int .u64 0], .int .i64 1]) := by
  intro w
  refine (muldiv_any _ _ _ _ _ _ _ _ _ _ _ _ up hx hy hu w).mono ?_
  rintro e w' ⟨z0, z1, z2, z3, c, rfl, hz, hs, hb⟩
  rcases hs with ⟨-, rfl, h⟩ | ⟨hc, -⟩
  · obtain ⟨rfl, rfl, rfl, rfl⟩ := (val_zero hz).1 h
    exact ⟨rfl, hb⟩
  · omega
theorem qr_one {a c q r q' r' : Int} (h1 : a = q * c + r) (h2 : a = q' * c + r') (hr : 0 ≤ r ∧ r < c) (hr' : 0 ≤ r' ∧ r' < c) : q = q' ∧ r = r' := by
  have hc : 0 < c := by omega
  have e : (q - q') * c = r' - r := by rw [Int.sub_mul]; omega
  have hlt : q - q' < 1 := Int.lt_of_mul_lt_mul_right (a := c) (by omega) (by omega)
  have hge : -1 < q - q' := Int.lt_of_mul_lt_mul_right (a := c) (by omega) (by omega)
  have : q = q' := by omega
  subst this
  omega
theorem says_md {x0 x1 x2 x3 y0 y1 y2 y3 u0 u1 u2 u3 z0 z1 z2 z3 q r : Int} (up : Bool) (hx : Lim x0 x1 x2 x3) (hy : Lim y0 y1 y2 y3) (hu : Lim u0 u1 u2 u3) (hz : Lim z0 z1 z2 z3) (hq : val x0 x1 x2 x3 * val y0 y1 y2 y3 = q * val u0 u1 u2 u3 + r) (hr : 0 ≤ r ∧ r < val u0 u1 u2 u3) (he : val z0 z1 z2 z3 = upI up q r) :
    Says 25 #[.agg #[.int .u64 x0, .int .u64 x1, .int .u64 x2, .int .u64 x3], .agg #[.int .u64 y0, .int .u64 y1, .int .u64 y2, .int .u64 y3], .agg #[.int .u64 u0, .int .u64 u1, .int .u64 u2, .int .u64 u3], .bool up] (.tuple #[.agg #[.int .u64 z0, .int .u64 z1, .int .u64 z2, .int .u64 z3], .int .i64 0]) := by
  intro w
  refine (muldiv_any _ _ _ _ _ _ _ _ _ _ _ _ up hx hy hu w).mono ?_
  rintro e w' ⟨v0, v1, v2, v3, c, rfl, hv, hs, hb⟩
  rcases hs with ⟨h, -⟩ | ⟨hc, q', r', h2, h3, h4, h5, h6⟩
  · omega
  · obtain ⟨rfl, rfl⟩ := qr_one hq h2 hr ⟨h3, h4⟩
    have := val_hi hz
    rcases h6 with ⟨-, rfl, h⟩ | ⟨h, -⟩
    · obtain ⟨rfl, rfl, rfl, rfl⟩ := val_inj hv hz (h.trans he.symm)
      exact ⟨rfl, hb⟩
    · omega
theorem says_md_over {x0 x1 x2 x3 y0 y1 y2 y3 u0 u1 u2 u3 q r : Int} (up : Bool) (hx : Lim x0 x1 x2 x3) (hy : Lim y0 y1 y2 y3) (hu : Lim u0 u1 u2 u3) (hq : val x0 x1 x2 x3 * val y0 y1 y2 y3 = q * val u0 u1 u2 u3 + r) (hr : 0 ≤ r ∧ r < val u0 u1 u2 u3) (he : 115792089237316195423570985008687907853269984665640564039457584007913129639936 ≤ upI up q r) :
    Says 25 #[.agg #[.int .u64 x0, .int .u64 x1, .int .u64 x2, .int .u64 x3], .agg #[.int .u64 y0, .int .u64 y1, .int .u64 y2, .int .u64 y3], .agg #[.int .u64 u0, .int .u64 u1, .int .u64 u2, .int .u64 u3], .bool up] (.tuple #[.agg #[.int .u64 0, .int .u64 0, .int .u64 0, .int .u64 0], .int .i64 2]) := by
  intro w
  refine (muldiv_any _ _ _ _ _ _ _ _ _ _ _ _ up hx hy hu w).mono ?_
  rintro e w' ⟨v0, v1, v2, v3, c, rfl, hv, hs, hb⟩
  rcases hs with ⟨h, -⟩ | ⟨hc, q', r', h2, h3, h4, h5, h6⟩
  · omega
  · obtain ⟨rfl, rfl⟩ := qr_one hq h2 hr ⟨h3, h4⟩
    rcases h6 with ⟨h, -⟩ | ⟨-, rfl, h⟩
    · omega
    · obtain ⟨rfl, rfl, rfl, rfl⟩ := (val_zero hv).1 h
      exact ⟨rfl, hb⟩
end Go.Proofs.Ytkeimndlcagbbaa
