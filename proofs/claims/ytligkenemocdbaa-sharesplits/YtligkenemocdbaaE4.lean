
/- The reference's MulDiv. -/
import Derived.Test.YtligkenemocdbaaE2
import Derived.Test.YtligkenemocdbaaE3
set_option linter.unusedSimpArgs false
set_option linter.unusedVariables false
namespace Go.Proofs.Ytligkenemocdbaa
open Go.RowKit

set_option maxHeartbeats 1000000 in
theorem zero_any (x0 x1 x2 x3 : Int) (w : World) :
    Calls Try.prog 24 #[.agg #[.int .u64 x0, .int .u64 x1, .int .u64 x2, .int .u64 x3]] w fun e w' => e = .returned (.bool (eq4 x0 x1 x2 x3 0 0 0 0)) ∧ Below w.heap.size w w' := by
  rcases Bool.eq_false_or_eq_true (x0 == 0) with e0 | e0
  · rcases Bool.eq_false_or_eq_true (x1 == 0) with e1 | e1
    · rcases Bool.eq_false_or_eq_true (x2 == 0) with e2 | e2
      · go_enter Try.func24, Try.ntmps24
        go_wp2
        go_ret
        exact ⟨ret_bool (by simp [eq4, e0, e1, e2]), by (repeat (first | (with_reducible exact Below.refl _ _) | (with_reducible assumption) | (with_reducible apply bd) | (with_reducible apply ba) | (with_reducible refine bp ?_ (by first | omega | (simp [pad_size]; done) | (simp [pad_size]; omega)) _ _) | (with_reducible refine bs ?_ (by first | omega | (simp [pad_size]; done) | (simp [pad_size]; omega)) _) | (with_reducible refine bt ?_ (by assumption))))⟩
      · go_enter Try.func24, Try.ntmps24
        go_wp2
        go_ret
        exact ⟨ret_bool (by simp [eq4, e0, e1, e2]), by (repeat (first | (with_reducible exact Below.refl _ _) | (with_reducible assumption) | (with_reducible apply bd) | (with_reducible apply ba) | (with_reducible refine bp ?_ (by first | omega | (simp [pad_size]; done) | (simp [pad_size]; omega)) _ _) | (with_reducible refine bs ?_ (by first | omega | (simp [pad_size]; done) | (simp [pad_size]; omega)) _) | (with_reducible refine bt ?_ (by assumption))))⟩
    · go_enter Try.func24, Try.ntmps24
      go_wp2
      go_ret
      exact ⟨ret_bool (by simp [eq4, e0, e1]), by (repeat (first | (with_reducible exact Below.refl _ _) | (with_reducible assumption) | (with_reducible apply bd) | (with_reducible apply ba) | (with_reducible refine bp ?_ (by first | omega | (simp [pad_size]; done) | (simp [pad_size]; omega)) _ _) | (with_reducible refine bs ?_ (by first | omega | (simp [pad_size]; done) | (simp [pad_size]; omega)) _) | (with_reducible refine bt ?_ (by assumption))))⟩
  · go_enter Try.func24, Try.ntmps24
    go_wp2
    go_ret
    exact ⟨ret_bool (by simp [eq4, e0]), by (repeat (first | (with_reducible exact Below.refl _ _) | (with_reducible assumption) | (with_reducible apply bd) | (with_reducible apply ba) | (with_reducible refine bp ?_ (by first | omega | (simp [pad_size]; done) | (simp [pad_size]; omega)) _ _) | (with_reducible refine bs ?_ (by first | omega | (simp [pad_size]; done) | (simp [pad_size]; omega)) _) | (with_reducible refine bt ?_ (by assumption))))⟩
set_option maxHeartbeats 2000000 in
theorem says_mdR_zero {x0 x1 x2 x3 y0 y1 y2 y3 u0 u1 u2 u3 : Int} (up : Bool) (hu0 : eq4 u0 u1 u2 u3 0 0 0 0 = true) : Says 25 #[.agg #[.int .u64 x0, .int .u64 x1, .int .u64 x2, .int .u64 x3], .agg #[.int .u64 y0, .int .u64 y1, .int .u64 y2, .int .u64 y3], .agg #[.int .u64 u0, .int .u64 u1, .int .u64 u2, .int .u64 u3], .bool up] (.tuple #[.agg #[.int .u64 0, .int .u64 0, .int .u64 0, .int .u64 0], .int .i64 1]) := by
  intro w
  have hpad := pads
  go_enter Try.func25, Try.ntmps25
  go_wp2_with (go_at_call 24; refine (zero_any _ _ _ _ _).mono ?_; rintro e w1 ⟨rfl, hb⟩; rw [hu0]; obtain ⟨m1, g1, d1, hm1, rfl⟩ := pad_of hb; clear hb; (try simp [pad_size] at hm1); have st1_w := sz4 (n := w.heap.size) (m := m1) (by omega))
  refine bodyPost_ret (v := .tuple #[.agg #[.int .u64 0, .int .u64 0, .int .u64 0, .int .u64 0], .int .i64 1]) (by simp only [results, Try.results25]; go_simp) rfl ⟨rfl, by (repeat (first | (with_reducible exact Below.refl _ _) | (with_reducible assumption) | (with_reducible apply bd) | (with_reducible apply ba) | (with_reducible refine bp ?_ (by first | omega | (simp [pad_size]; done) | (simp [pad_size]; omega)) _ _) | (with_reducible refine bs ?_ (by first | omega | (simp [pad_size]; done) | (simp [pad_size]; omega)) _) | (with_reducible refine bt ?_ (by assumption))))⟩

set_option maxRecDepth 100000 in
set_option maxHeartbeats 8000000 in
theorem says_mdR {x0 x1 x2 x3 y0 y1 y2 y3 u0 u1 u2 u3 z0 z1 z2 z3 q r : Int} (up : Bool) (hx : Lim x0 x1 x2 x3) (hy : Lim y0 y1 y2 y3) (hu : Lim u0 u1 u2 u3) (hz : Lim z0 z1 z2 z3) (hu0 : eq4 u0 u1 u2 u3 0 0 0 0 = false) (hqr : Hid (val x0 x1 x2 x3 * val y0 y1 y2 y3 = q * val u0 u1 u2 u3 + r ∧ 0 ≤ r ∧ r < val u0 u1 u2 u3)) (he : Hid (val z0 z1 z2 z3 = upI up q r)) :
    Says 25 #[.agg #[.int .u64 x0, .int .u64 x1, .int .u64 x2, .int .u64 x3], .agg #[.int .u64 y0, .int .u64 y1, .int .u64 y2, .int .u64 y3], .agg #[.int .u64 u0, .int .u64 u1, .int .u64 u2, .int .u64 u3], .bool up] (.tuple #[.agg #[.int .u64 z0, .int .u64 z1, .int .u64 z2, .int .u64 z3], .int .i64 0]) := by
  intro w
  have hpad := pads
  have hup : 0 < val u0 u1 u2 u3 := by have := hqr.out; omega
  go_enter Try.func25, Try.ntmps25
  go_upto_region 3 with (go_at_call 24; refine (zero_any _ _ _ _ _).mono ?_; rintro e w1 ⟨rfl, hb⟩; rw [hu0]; obtain ⟨m1, g1, d1, hm1, rfl⟩ := pad_of hb; clear hb; (try simp [pad_size] at hm1); have st1_w := sz4 (n := w.heap.size) (m := m1) (by omega))
  go_cut [10, 11] from 17 to 24 (fun s10 s11 wx => ∃ (dq : Nat → Int) (gq cq : Nat) (qv R : Int), s10 = .slice (some ⟨gq, 0, none⟩) 32 cq ∧ s11 = .bool (decide (0 < R)) ∧ wx.ownsRow (w.heap.size + 1 + 1 + 1 + 1) 22 1 (.slice (some ⟨gq, 0, none⟩) 32 cq) 32 (encU (fl dq 32)) ∧ (∀ i, i < 32 → 0 ≤ dq i ∧ dq i < 65536) ∧ Hid (val x0 x1 x2 x3 * val y0 y1 y2 y3 = qv * val u0 u1 u2 u3 + R ∧ 0 ≤ R ∧ R < val u0 u1 u2 u3 ∧ sm dq 32 = qv) ∧ Below (w.heap.size + 1 + 1 + 1 + 1) ((((w.alloc (.cells #[.int .u64 x0, .int .u64 x1, .int .u64 x2, .int .u64 x3] 24)).alloc (.cells #[.int .u64 y0, .int .u64 y1, .int .u64 y2, .int .u64 y3] 24)).alloc (.cells #[.int .u64 u0, .int .u64 u1, .int .u64 u2, .int .u64 u3] 24)).alloc (.cells #[.int .u64 0, .int .u64 0, .int .u64 0, .int .u64 0] 24)) wx)
  case first =>
    go_region_held2 (fun W => W.cell? ⟨w.heap.size, 0, none⟩ = some (.int .u64 x0) ∧ W.cell? ⟨w.heap.size, 1, none⟩ = some (.int .u64 x1) ∧ W.cell? ⟨w.heap.size, 2, none⟩ = some (.int .u64 x2) ∧ W.cell? ⟨w.heap.size, 3, none⟩ = some (.int .u64 x3) ∧ W.cell? ⟨w.heap.size + 1, 0, none⟩ = some (.int .u64 y0) ∧ W.cell? ⟨w.heap.size + 1, 1, none⟩ = some (.int .u64 y1) ∧ W.cell? ⟨w.heap.size + 1, 2, none⟩ = some (.int .u64 y2) ∧ W.cell? ⟨w.heap.size + 1, 3, none⟩ = some (.int .u64 y3) ∧ W.cell? ⟨w.heap.size + 1 + 1, 0, none⟩ = some (.int .u64 u0) ∧ W.cell? ⟨w.heap.size + 1 + 1, 1, none⟩ = some (.int .u64 u1) ∧ W.cell? ⟨w.heap.size + 1 + 1, 2, none⟩ = some (.int .u64 u2) ∧ W.cell? ⟨w.heap.size + 1 + 1, 3, none⟩ = some (.int .u64 u3)) (go_simp) (first
      | (go_at_call 36; with_reducible refine (wide_c _ _ _ _ _ _ _ _ hx hy _).mono ?_; rintro e w1 ⟨dl, r1, cap1, rfl, hg1, hc1, hl1, hs1, hb1⟩; obtain ⟨m2, g2, d2, hm2, rfl⟩ := pad_of (bt (bp (Below.refl _ _) (by first | omega | (simp [pad_size]; omega)) _ _) hb1); clear hb1; (try simp [pad_size] at hm2); have st2_w := sz4 (n := w.heap.size) (m := m2) (by omega))
      | (go_at_call 35; refine (by_any dl r1 cap1 _ _ _ _ hu hup hl1 _ hg1 hc1).mono ?_; rintro e w2 ⟨dq, gq, cq, qv, R, rfl, hrq, hlq, hsq, hb2⟩; obtain ⟨m3, g3, d3, hm3, rfl⟩ := pad_of (bt (bp (Below.refl _ _) (by first | omega | (simp [pad_size]; omega)) _ _) hb2); clear hb2; (try simp [pad_size] at hm3); have st3_w := sz4 (n := w.heap.size) (m := m3) (by omega)))
    all_goals (go_wp2_with fail; go_meet)
    all_goals
      refine ⟨dq, gq, cq, qv, R, rfl, rfl, row_base hrq (by simp [pad_size]; omega), hlq, ?_, ?_⟩
      · have h := hsq.out
        rw [hs1.out] at h
        exact h
      · have hp := bp (Below.refl _ ((((w.alloc (.cells #[.int .u64 x0, .int .u64 x1, .int .u64 x2, .int .u64 x3] 24)).alloc (.cells #[.int .u64 y0, .int .u64 y1, .int .u64 y2, .int .u64 y3] 24)).alloc (.cells #[.int .u64 u0, .int .u64 u1, .int .u64 u2, .int .u64 u3] 24)).alloc (.cells #[.int .u64 0, .int .u64 0, .int .u64 0, .int .u64 0] 24))) (m := m3) (by simp; omega) g3 d3
        simpa using hp
  case rest =>
    obtain ⟨dq, gq, cq, qv, R, rfl, rfl, hr, hlq, hsq, hB⟩ := hcut
    obtain ⟨h1, h2, h3, h4⟩ := hsq.out
    obtain ⟨hq1, hr1⟩ := qr_one hqr.out.1 h1 hqr.out.2 ⟨h2, h3⟩
    have hval := he.out
    unfold upI at hval
    rw [hq1, hr1] at hval
    have hsz : w.heap.size + 1 + 1 + 1 + 1 ≤ wc.heap.size := by have := hB.size; simpa using this
    obtain ⟨gq', cq', hv, hgq, hgql, hcq, hfq⟩ := row_words (n := 31) hr (fl_len _ _)
    cases hv
    have hcs : ∀ k, k < 32 → wc.cell? ⟨gq, k, none⟩ = some (.int .u64 (dq k)) := fun k hk => by rw [hcq k hk]; simp [fl]
    clear hcq
    by_cases hb : up = true ∧ R ≠ 0
    · obtain ⟨rfl, hR⟩ := hb
      have hb : true = true ∧ R ≠ 0 := ⟨rfl, hR⟩
      have hRd : decide (0 < R) = true := by simp; omega
      rw [hRd]
      have c0 := hcs 0 (by omega)
      have f0 := hfq 0
      have b0 := hlq 0 (by omega)
      have hw : IntKind.u64.wrap (dq 0 + 1) = dq 0 + 1 := by rw [IntKind.wrap_u64]; omega
      have hd32 : ∀ i, i < 32 → 0 ≤ upd dq 0 (dq 0 + 1) i ∧ upd dq 0 (dq 0 + 1) i ≤ 131070 := fun i hi => by
        unfold upd; split
        · omega
        · have := hlq i hi; omega
      have hsum1 : sm (upd dq 0 (dq 0 + 1)) 32 = qv + 1 := by rw [sm_put (dq 0 + 1) 32 (by omega), h4]; simp; omega
      have hBs : Below (w.heap.size + 1 + 1 + 1 + 1) ((((w.alloc (.cells #[.int .u64 x0, .int .u64 x1, .int .u64 x2, .int .u64 x3] 24)).alloc (.cells #[.int .u64 y0, .int .u64 y1, .int .u64 y2, .int .u64 y3] 24)).alloc (.cells #[.int .u64 u0, .int .u64 u1, .int .u64 u2, .int .u64 u3] 24)).alloc (.cells #[.int .u64 0, .int .u64 0, .int .u64 0, .int .u64 0] 24)) (wc.setCell ⟨gq, 0, none⟩ (.int .u64 (dq 0 + 1))) := hB.setCell (p := ⟨gq, 0, none⟩) hgq _
      clear hcs hfq
      go_upto_region 6 with fail
      go_wp2_with (first
          | (go_at_call 31; refine (carry32_any (upd dq 0 (dq 0 + 1)) hd32 (w.heap.size + 1 + 1 + 1 + 1) gq cq _ (by have := hB.size; simp at this ⊢; omega) (by rw [← fl_set]; exact row_set _ hr (by omega))).mono ?_; rintro e w5 ⟨d5, v5, rfl, hr5, hl5, hs5, hb5⟩; obtain ⟨g5, c5, rfl, hg5, hgl5, hc5', -⟩ := row_words (n := 32) hr5 (fl_len _ _); have hc5 : ∀ k, k < 33 → w5.cell? ⟨g5, k, none⟩ = some (.int .u64 (d5 k)) := (fun k hk => by rw [hc5' k hk]; simp [fl]); clear hc5'; have hs6 : sm d5 33 = qv + 1 := (hs5.trans hsum1))
          | (go_at_call 29; refine (says_ofR (by omega) hl5 hz (by rw [hs6, hval, if_pos hb]) g5 c5 _ hgl5 hc5).mono ?_; rintro e w6 ⟨rfl, hb6⟩; obtain ⟨m1, f1, d1, hm1, rfl⟩ := pad_of (add_chain (A := ((((w.alloc (.cells #[.int .u64 x0, .int .u64 x1, .int .u64 x2, .int .u64 x3] 24)).alloc (.cells #[.int .u64 y0, .int .u64 y1, .int .u64 y2, .int .u64 y3] 24)).alloc (.cells #[.int .u64 u0, .int .u64 u1, .int .u64 u2, .int .u64 u3] 24)).alloc (.cells #[.int .u64 0, .int .u64 0, .int .u64 0, .int .u64 0] 24))) (by simpa using hBs) (by simpa using hb5) hb6); clear hb6; simp at hm1; have st1 := sz4 (n := w.heap.size) (m := m1) hm1))
      refine bodyPost_ret (v := .tuple #[.agg #[.int .u64 z0, .int .u64 z1, .int .u64 z2, .int .u64 z3], .int .i64 0]) (by simp only [results, Try.results25]; go_simp) rfl ⟨rfl, by (repeat (first | (with_reducible exact Below.refl _ _) | (with_reducible assumption) | (with_reducible apply bd) | (with_reducible apply ba) | (with_reducible refine bp ?_ (by first | omega | (simp [pad_size]; done) | (simp [pad_size]; omega)) _ _) | (with_reducible refine bs ?_ (by first | omega | (simp [pad_size]; done) | (simp [pad_size]; omega)) _) | (with_reducible refine bt ?_ (by assumption))))⟩
    · have hs6 : sm dq 32 = qv := h4
      by_cases hRd : 0 < R
      · have hup2 : up = false := by
          cases up
          · rfl
          · exact absurd ⟨rfl, by omega⟩ hb
        subst hup2
        have hRd' : decide (0 < R) = true := by simpa using hRd
        rw [hRd']
        clear hfq
        go_wp2_with (go_at_call 29; refine (says_ofR (by omega) hlq hz (by rw [hs6, hval, if_neg hb]) gq cq _ hgql hcs).mono ?_; rintro e w6 ⟨rfl, hb6⟩; obtain ⟨m1, f1, d1, hm1, rfl⟩ := pad_of (bt (a := ((((w.alloc (.cells #[.int .u64 x0, .int .u64 x1, .int .u64 x2, .int .u64 x3] 24)).alloc (.cells #[.int .u64 y0, .int .u64 y1, .int .u64 y2, .int .u64 y3] 24)).alloc (.cells #[.int .u64 u0, .int .u64 u1, .int .u64 u2, .int .u64 u3] 24)).alloc (.cells #[.int .u64 0, .int .u64 0, .int .u64 0, .int .u64 0] 24))) (by simpa using hB) hb6); clear hb6; simp at hm1; have st1 := sz4 (n := w.heap.size) (m := m1) hm1)
        refine bodyPost_ret (v := .tuple #[.agg #[.int .u64 z0, .int .u64 z1, .int .u64 z2, .int .u64 z3], .int .i64 0]) (by simp only [results, Try.results25]; go_simp) rfl ⟨rfl, by (repeat (first | (with_reducible exact Below.refl _ _) | (with_reducible assumption) | (with_reducible apply bd) | (with_reducible apply ba) | (with_reducible refine bp ?_ (by first | omega | (simp [pad_size]; done) | (simp [pad_size]; omega)) _ _) | (with_reducible refine bs ?_ (by first | omega | (simp [pad_size]; done) | (simp [pad_size]; omega)) _) | (with_reducible refine bt ?_ (by assumption))))⟩
      · have hRd' : decide (0 < R) = false := by simpa using hRd
        rw [hRd']
        clear hfq
        go_wp2_with (go_at_call 29; refine (says_ofR (by omega) hlq hz (by rw [hs6, hval, if_neg hb]) gq cq _ hgql hcs).mono ?_; rintro e w6 ⟨rfl, hb6⟩; obtain ⟨m1, f1, d1, hm1, rfl⟩ := pad_of (bt (a := ((((w.alloc (.cells #[.int .u64 x0, .int .u64 x1, .int .u64 x2, .int .u64 x3] 24)).alloc (.cells #[.int .u64 y0, .int .u64 y1, .int .u64 y2, .int .u64 y3] 24)).alloc (.cells #[.int .u64 u0, .int .u64 u1, .int .u64 u2, .int .u64 u3] 24)).alloc (.cells #[.int .u64 0, .int .u64 0, .int .u64 0, .int .u64 0] 24))) (by simpa using hB) hb6); clear hb6; simp at hm1; have st1 := sz4 (n := w.heap.size) (m := m1) hm1)
        refine bodyPost_ret (v := .tuple #[.agg #[.int .u64 z0, .int .u64 z1, .int .u64 z2, .int .u64 z3], .int .i64 0]) (by simp only [results, Try.results25]; go_simp) rfl ⟨rfl, by (repeat (first | (with_reducible exact Below.refl _ _) | (with_reducible assumption) | (with_reducible apply bd) | (with_reducible apply ba) | (with_reducible refine bp ?_ (by first | omega | (simp [pad_size]; done) | (simp [pad_size]; omega)) _ _) | (with_reducible refine bs ?_ (by first | omega | (simp [pad_size]; done) | (simp [pad_size]; omega)) _) | (with_reducible refine bt ?_ (by assumption))))⟩

set_option maxRecDepth 100000 in
set_option maxHeartbeats 8000000 in
theorem says_mdR_over {x0 x1 x2 x3 y0 y1 y2 y3 u0 u1 u2 u3  q r : Int} (up : Bool) (hx : Lim x0 x1 x2 x3) (hy : Lim y0 y1 y2 y3) (hu : Lim u0 u1 u2 u3) (hu0 : eq4 u0 u1 u2 u3 0 0 0 0 = false) (hqr : Hid (val x0 x1 x2 x3 * val y0 y1 y2 y3 = q * val u0 u1 u2 u3 + r ∧ 0 ≤ r ∧ r < val u0 u1 u2 u3)) (he : Hid (115792089237316195423570985008687907853269984665640564039457584007913129639936 ≤ upI up q r)) :
    Says 25 #[.agg #[.int .u64 x0, .int .u64 x1, .int .u64 x2, .int .u64 x3], .agg #[.int .u64 y0, .int .u64 y1, .int .u64 y2, .int .u64 y3], .agg #[.int .u64 u0, .int .u64 u1, .int .u64 u2, .int .u64 u3], .bool up] (.tuple #[.agg #[.int .u64 0, .int .u64 0, .int .u64 0, .int .u64 0], .int .i64 2]) := by
  intro w
  have hpad := pads
  have hup : 0 < val u0 u1 u2 u3 := by have := hqr.out; omega
  go_enter Try.func25, Try.ntmps25
  go_upto_region 3 with (go_at_call 24; refine (zero_any _ _ _ _ _).mono ?_; rintro e w1 ⟨rfl, hb⟩; rw [hu0]; obtain ⟨m1, g1, d1, hm1, rfl⟩ := pad_of hb; clear hb; (try simp [pad_size] at hm1); have st1_w := sz4 (n := w.heap.size) (m := m1) (by omega))
  go_cut [10, 11] from 17 to 24 (fun s10 s11 wx => ∃ (dq : Nat → Int) (gq cq : Nat) (qv R : Int), s10 = .slice (some ⟨gq, 0, none⟩) 32 cq ∧ s11 = .bool (decide (0 < R)) ∧ wx.ownsRow (w.heap.size + 1 + 1 + 1 + 1) 22 1 (.slice (some ⟨gq, 0, none⟩) 32 cq) 32 (encU (fl dq 32)) ∧ (∀ i, i < 32 → 0 ≤ dq i ∧ dq i < 65536) ∧ Hid (val x0 x1 x2 x3 * val y0 y1 y2 y3 = qv * val u0 u1 u2 u3 + R ∧ 0 ≤ R ∧ R < val u0 u1 u2 u3 ∧ sm dq 32 = qv) ∧ Below (w.heap.size + 1 + 1 + 1 + 1) ((((w.alloc (.cells #[.int .u64 x0, .int .u64 x1, .int .u64 x2, .int .u64 x3] 24)).alloc (.cells #[.int .u64 y0, .int .u64 y1, .int .u64 y2, .int .u64 y3] 24)).alloc (.cells #[.int .u64 u0, .int .u64 u1, .int .u64 u2, .int .u64 u3] 24)).alloc (.cells #[.int .u64 0, .int .u64 0, .int .u64 0, .int .u64 0] 24)) wx)
  case first =>
    go_region_held2 (fun W => W.cell? ⟨w.heap.size, 0, none⟩ = some (.int .u64 x0) ∧ W.cell? ⟨w.heap.size, 1, none⟩ = some (.int .u64 x1) ∧ W.cell? ⟨w.heap.size, 2, none⟩ = some (.int .u64 x2) ∧ W.cell? ⟨w.heap.size, 3, none⟩ = some (.int .u64 x3) ∧ W.cell? ⟨w.heap.size + 1, 0, none⟩ = some (.int .u64 y0) ∧ W.cell? ⟨w.heap.size + 1, 1, none⟩ = some (.int .u64 y1) ∧ W.cell? ⟨w.heap.size + 1, 2, none⟩ = some (.int .u64 y2) ∧ W.cell? ⟨w.heap.size + 1, 3, none⟩ = some (.int .u64 y3) ∧ W.cell? ⟨w.heap.size + 1 + 1, 0, none⟩ = some (.int .u64 u0) ∧ W.cell? ⟨w.heap.size + 1 + 1, 1, none⟩ = some (.int .u64 u1) ∧ W.cell? ⟨w.heap.size + 1 + 1, 2, none⟩ = some (.int .u64 u2) ∧ W.cell? ⟨w.heap.size + 1 + 1, 3, none⟩ = some (.int .u64 u3)) (go_simp) (first
      | (go_at_call 36; with_reducible refine (wide_c _ _ _ _ _ _ _ _ hx hy _).mono ?_; rintro e w1 ⟨dl, r1, cap1, rfl, hg1, hc1, hl1, hs1, hb1⟩; obtain ⟨m2, g2, d2, hm2, rfl⟩ := pad_of (bt (bp (Below.refl _ _) (by first | omega | (simp [pad_size]; omega)) _ _) hb1); clear hb1; (try simp [pad_size] at hm2); have st2_w := sz4 (n := w.heap.size) (m := m2) (by omega))
      | (go_at_call 35; refine (by_any dl r1 cap1 _ _ _ _ hu hup hl1 _ hg1 hc1).mono ?_; rintro e w2 ⟨dq, gq, cq, qv, R, rfl, hrq, hlq, hsq, hb2⟩; obtain ⟨m3, g3, d3, hm3, rfl⟩ := pad_of (bt (bp (Below.refl _ _) (by first | omega | (simp [pad_size]; omega)) _ _) hb2); clear hb2; (try simp [pad_size] at hm3); have st3_w := sz4 (n := w.heap.size) (m := m3) (by omega)))
    all_goals (go_wp2_with fail; go_meet)
    all_goals
      refine ⟨dq, gq, cq, qv, R, rfl, rfl, row_base hrq (by simp [pad_size]; omega), hlq, ?_, ?_⟩
      · have h := hsq.out
        rw [hs1.out] at h
        exact h
      · have hp := bp (Below.refl _ ((((w.alloc (.cells #[.int .u64 x0, .int .u64 x1, .int .u64 x2, .int .u64 x3] 24)).alloc (.cells #[.int .u64 y0, .int .u64 y1, .int .u64 y2, .int .u64 y3] 24)).alloc (.cells #[.int .u64 u0, .int .u64 u1, .int .u64 u2, .int .u64 u3] 24)).alloc (.cells #[.int .u64 0, .int .u64 0, .int .u64 0, .int .u64 0] 24))) (m := m3) (by simp; omega) g3 d3
        simpa using hp
  case rest =>
    obtain ⟨dq, gq, cq, qv, R, rfl, rfl, hr, hlq, hsq, hB⟩ := hcut
    obtain ⟨h1, h2, h3, h4⟩ := hsq.out
    obtain ⟨hq1, hr1⟩ := qr_one hqr.out.1 h1 hqr.out.2 ⟨h2, h3⟩
    have hval := he.out
    unfold upI at hval
    rw [hq1, hr1] at hval
    have hsz : w.heap.size + 1 + 1 + 1 + 1 ≤ wc.heap.size := by have := hB.size; simpa using this
    obtain ⟨gq', cq', hv, hgq, hgql, hcq, hfq⟩ := row_words (n := 31) hr (fl_len _ _)
    cases hv
    have hcs : ∀ k, k < 32 → wc.cell? ⟨gq, k, none⟩ = some (.int .u64 (dq k)) := fun k hk => by rw [hcq k hk]; simp [fl]
    clear hcq
    by_cases hb : up = true ∧ R ≠ 0
    · obtain ⟨rfl, hR⟩ := hb
      have hb : true = true ∧ R ≠ 0 := ⟨rfl, hR⟩
      have hRd : decide (0 < R) = true := by simp; omega
      rw [hRd]
      have c0 := hcs 0 (by omega)
      have f0 := hfq 0
      have b0 := hlq 0 (by omega)
      have hw : IntKind.u64.wrap (dq 0 + 1) = dq 0 + 1 := by rw [IntKind.wrap_u64]; omega
      have hd32 : ∀ i, i < 32 → 0 ≤ upd dq 0 (dq 0 + 1) i ∧ upd dq 0 (dq 0 + 1) i ≤ 131070 := fun i hi => by
        unfold upd; split
        · omega
        · have := hlq i hi; omega
      have hsum1 : sm (upd dq 0 (dq 0 + 1)) 32 = qv + 1 := by rw [sm_put (dq 0 + 1) 32 (by omega), h4]; simp; omega
      have hBs : Below (w.heap.size + 1 + 1 + 1 + 1) ((((w.alloc (.cells #[.int .u64 x0, .int .u64 x1, .int .u64 x2, .int .u64 x3] 24)).alloc (.cells #[.int .u64 y0, .int .u64 y1, .int .u64 y2, .int .u64 y3] 24)).alloc (.cells #[.int .u64 u0, .int .u64 u1, .int .u64 u2, .int .u64 u3] 24)).alloc (.cells #[.int .u64 0, .int .u64 0, .int .u64 0, .int .u64 0] 24)) (wc.setCell ⟨gq, 0, none⟩ (.int .u64 (dq 0 + 1))) := hB.setCell (p := ⟨gq, 0, none⟩) hgq _
      clear hcs hfq
      go_upto_region 6 with fail
      go_wp2_with (first
          | (go_at_call 31; refine (carry32_any (upd dq 0 (dq 0 + 1)) hd32 (w.heap.size + 1 + 1 + 1 + 1) gq cq _ (by have := hB.size; simp at this ⊢; omega) (by rw [← fl_set]; exact row_set _ hr (by omega))).mono ?_; rintro e w5 ⟨d5, v5, rfl, hr5, hl5, hs5, hb5⟩; obtain ⟨g5, c5, rfl, hg5, hgl5, hc5', -⟩ := row_words (n := 32) hr5 (fl_len _ _); have hc5 : ∀ k, k < 33 → w5.cell? ⟨g5, k, none⟩ = some (.int .u64 (d5 k)) := (fun k hk => by rw [hc5' k hk]; simp [fl]); clear hc5'; have hs6 : sm d5 33 = qv + 1 := (hs5.trans hsum1))
          | (go_at_call 29; refine (says_ofR_over (by omega) hl5 (by rw [hs6]; rw [if_pos hb] at hval; exact hval) g5 c5 _ hgl5 hc5).mono ?_; rintro e w6 ⟨rfl, hb6⟩; obtain ⟨m1, f1, d1, hm1, rfl⟩ := pad_of (add_chain (A := ((((w.alloc (.cells #[.int .u64 x0, .int .u64 x1, .int .u64 x2, .int .u64 x3] 24)).alloc (.cells #[.int .u64 y0, .int .u64 y1, .int .u64 y2, .int .u64 y3] 24)).alloc (.cells #[.int .u64 u0, .int .u64 u1, .int .u64 u2, .int .u64 u3] 24)).alloc (.cells #[.int .u64 0, .int .u64 0, .int .u64 0, .int .u64 0] 24))) (by simpa using hBs) (by simpa using hb5) hb6); clear hb6; simp at hm1; have st1 := sz4 (n := w.heap.size) (m := m1) hm1))
      refine bodyPost_ret (v := .tuple #[.agg #[.int .u64 0, .int .u64 0, .int .u64 0, .int .u64 0], .int .i64 2]) (by simp only [results, Try.results25]; go_simp) rfl ⟨rfl, by (repeat (first | (with_reducible exact Below.refl _ _) | (with_reducible assumption) | (with_reducible apply bd) | (with_reducible apply ba) | (with_reducible refine bp ?_ (by first | omega | (simp [pad_size]; done) | (simp [pad_size]; omega)) _ _) | (with_reducible refine bs ?_ (by first | omega | (simp [pad_size]; done) | (simp [pad_size]; omega)) _) | (with_reducible refine bt ?_ (by assumption))))⟩
    · have hs6 : sm dq 32 = qv := h4
      by_cases hRd : 0 < R
      · have hup2 : up = false := by
          cases up
          · rfl
          · exact absurd ⟨rfl, by omega⟩ hb
        subst hup2
        have hRd' : decide (0 < R) = true := by simpa using hRd
        rw [hRd']
        clear hfq
        go_wp2_with (go_at_call 29; refine (says_ofR_over (by omega) hlq (by rw [hs6]; rw [if_neg hb] at hval; exact hval) gq cq _ hgql hcs).mono ?_; rintro e w6 ⟨rfl, hb6⟩; obtain ⟨m1, f1, d1, hm1, rfl⟩ := pad_of (bt (a := ((((w.alloc (.cells #[.int .u64 x0, .int .u64 x1, .int .u64 x2, .int .u64 x3] 24)).alloc (.cells #[.int .u64 y0, .int .u64 y1, .int .u64 y2, .int .u64 y3] 24)).alloc (.cells #[.int .u64 u0, .int .u64 u1, .int .u64 u2, .int .u64 u3] 24)).alloc (.cells #[.int .u64 0, .int .u64 0, .int .u64 0, .int .u64 0] 24))) (by simpa using hB) hb6); clear hb6; simp at hm1; have st1 := sz4 (n := w.heap.size) (m := m1) hm1)
        refine bodyPost_ret (v := .tuple #[.agg #[.int .u64 0, .int .u64 0, .int .u64 0, .int .u64 0], .int .i64 2]) (by simp only [results, Try.results25]; go_simp) rfl ⟨rfl, by (repeat (first | (with_reducible exact Below.refl _ _) | (with_reducible assumption) | (with_reducible apply bd) | (with_reducible apply ba) | (with_reducible refine bp ?_ (by first | omega | (simp [pad_size]; done) | (simp [pad_size]; omega)) _ _) | (with_reducible refine bs ?_ (by first | omega | (simp [pad_size]; done) | (simp [pad_size]; omega)) _) | (with_reducible refine bt ?_ (by assumption))))⟩
      · have hRd' : decide (0 < R) = false := by simpa using hRd
        rw [hRd']
        clear hfq
        go_wp2_with (go_at_call 29; refine (says_ofR_over (by omega) hlq (by rw [hs6]; rw [if_neg hb] at hval; exact hval) gq cq _ hgql hcs).mono ?_; rintro e w6 ⟨rfl, hb6⟩; obtain ⟨m1, f1, d1, hm1, rfl⟩ := pad_of (bt (a := ((((w.alloc (.cells #[.int .u64 x0, .int .u64 x1, .int .u64 x2, .int .u64 x3] 24)).alloc (.cells #[.int .u64 y0, .int .u64 y1, .int .u64 y2, .int .u64 y3] 24)).alloc (.cells #[.int .u64 u0, .int .u64 u1, .int .u64 u2, .int .u64 u3] 24)).alloc (.cells #[.int .u64 0, .int .u64 0, .int .u64 0, .int .u64 0] 24))) (by simpa using hB) hb6); clear hb6; simp at hm1; have st1 := sz4 (n := w.heap.size) (m := m1) hm1)
        refine bodyPost_ret (v := .tuple #[.agg #[.int .u64 0, .int .u64 0, .int .u64 0, .int .u64 0], .int .i64 2]) (by simp only [results, Try.results25]; go_simp) rfl ⟨rfl, by (repeat (first | (with_reducible exact Below.refl _ _) | (with_reducible assumption) | (with_reducible apply bd) | (with_reducible apply ba) | (with_reducible refine bp ?_ (by first | omega | (simp [pad_size]; done) | (simp [pad_size]; omega)) _ _) | (with_reducible refine bs ?_ (by first | omega | (simp [pad_size]; done) | (simp [pad_size]; omega)) _) | (with_reducible refine bt ?_ (by assumption))))⟩
end Go.Proofs.Ytligkenemocdbaa
