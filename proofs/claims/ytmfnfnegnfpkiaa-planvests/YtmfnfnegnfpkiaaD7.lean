
/- The reference's Rest. -/
import Derived.Test.YtmfnfnegnfpkiaaD6
set_option linter.unusedSimpArgs false
set_option linter.unusedVariables false
set_option maxRecDepth 20000
namespace Go.Proofs.Ytmfnfnegnfpkiaa
open Go.RowKit

theorem cmpI_le {x y : Int} (h : x ≤ y) : cmpI x y ≤ 0 := by unfold cmpI; split <;> (try split) <;> omega
theorem cmpI_gt {x y : Int} (h : y < x) : ¬ cmpI x y ≤ 0 := by rw [cmp_gt h]; omega
theorem sm_lim {dl : Nat → Int} (n : Nat) (h : ∀ i, i < n → 0 ≤ dl i ∧ dl i < 65536) : 0 ≤ sm dl n ∧ sm dl n < 65536 ^ n := by
  induction n with
  | zero => simp [sm]
  | succ n ih =>
    have h1 := ih (fun i hi => h i (by omega))
    have h2 := h n (by omega)
    simp only [sm, Int.pow_succ]
    have h3 : 0 ≤ (65536 : Int) ^ n := Int.pow_nonneg (by decide)
    generalize (65536 : Int) ^ n = B at *
    have h4 : 0 ≤ dl n * B := Int.mul_nonneg h2.1 h3
    have h5 : dl n * B ≤ 65535 * B := Int.mul_le_mul_of_nonneg_right (by omega) h3
    omega

set_option maxHeartbeats 1000000 in
theorem restR_none (x0 x1 x2 x3 y0 y1 y2 y3 : Int) (hx : Lim x0 x1 x2 x3) (hy : Lim y0 y1 y2 y3) (h : val x0 x1 x2 x3 ≤ val y0 y1 y2 y3) (w : World) :
    Calls Try.prog 90 #[.agg #[.int .u64 x0, .int .u64 x1, .int .u64 x2, .int .u64 x3], .agg #[.int .u64 y0, .int .u64 y1, .int .u64 y2, .int .u64 y3]] w fun e w' => e = .returned (.agg #[.int .u64 0, .int .u64 0, .int .u64 0, .int .u64 0]) ∧ Below w.heap.size w w' := by
  have hpad := pads
  have hc := cmpI_le h
  go_enter Try.func90, Try.ntmps90
  go_wp2_with (go_at_call 60; refine (cmpR_any _ _ _ _ _ _ _ _ hx hy _).mono ?_; rintro e w1 ⟨rfl, hb⟩; obtain ⟨m1, g1, d1, hm1, rfl⟩ := pad_of hb; clear hb; (try simp [pad_size] at hm1); have st1_w := sz3 (n := w.heap.size) (m := m1) (by omega))
  refine bodyPost_ret (v := .agg #[.int .u64 0, .int .u64 0, .int .u64 0, .int .u64 0]) (by simp only [results, Try.results90]; go_simp) rfl ⟨rfl, by (repeat (first | (with_reducible exact Below.refl _ _) | (with_reducible assumption) | (with_reducible apply bd) | (with_reducible apply ba) | (with_reducible refine bp ?_ (by first | omega | (simp [pad_size]; done) | (simp [pad_size]; omega)) _ _) | (with_reducible refine bs ?_ (by first | omega | (simp [pad_size]; done) | (simp [pad_size]; omega)) _) | (with_reducible refine bt ?_ (by assumption))))⟩

set_option maxRecDepth 100000 in
set_option maxHeartbeats 4000000 in
theorem restR_some (x0 x1 x2 x3 y0 y1 y2 y3 : Int) (hx : Lim x0 x1 x2 x3) (hy : Lim y0 y1 y2 y3) (h : Hid (val y0 y1 y2 y3 < val x0 x1 x2 x3)) (w : World) :
    Calls Try.prog 90 #[.agg #[.int .u64 x0, .int .u64 x1, .int .u64 x2, .int .u64 x3], .agg #[.int .u64 y0, .int .u64 y1, .int .u64 y2, .int .u64 y3]] w fun e w' => ∃ z0 z1 z2 z3 : Int, e = .returned (.agg #[.int .u64 z0, .int .u64 z1, .int .u64 z2, .int .u64 z3]) ∧ Lim z0 z1 z2 z3 ∧ Hid (val z0 z1 z2 z3 = val x0 x1 x2 x3 - val y0 y1 y2 y3) ∧ Below w.heap.size w w' := by
  have hpad := pads
  have hc := cmpI_gt h.out
  have hc' : decide (cmpI (val x0 x1 x2 x3) (val y0 y1 y2 y3) ≤ 0) = false := by simpa using hc
  go_enter Try.func90, Try.ntmps90
  go_upto_region 3 with (go_at_call 60; refine (cmpR_any _ _ _ _ _ _ _ _ hx hy _).mono ?_; rintro e w1 ⟨rfl, hb⟩; obtain ⟨m1, g1, d1, hm1, rfl⟩ := pad_of hb; clear hb; (try simp [pad_size] at hm1); have st1_w := sz3 (n := w.heap.size) (m := m1) (by omega))
  go_cut [5, 6] from 17 to 20 (fun s5 s6 wx => ∃ (g1 c1 g2 c2 : Nat), s5 = .slice (some ⟨g1, 0, none⟩) 16 c1 ∧ s6 = .slice (some ⟨g2, 0, none⟩) 16 c2 ∧ wx.ownsRow (w.heap.size + 1 + 1 + 1) 22 1 (.slice (some ⟨g1, 0, none⟩) 16 c1) 16 (encU (fl (dg x0 x1 x2 x3) 16)) ∧ g1 ≠ g2 ∧ g2 < wx.heap.size ∧ (∀ k, k < 16 → wx.cell? ⟨g2, k, none⟩ = some (.int .u64 (dg y0 y1 y2 y3 k))) ∧ Below (w.heap.size + 1 + 1 + 1) (((w.alloc (.cells #[.int .u64 x0, .int .u64 x1, .int .u64 x2, .int .u64 x3] 69)).alloc (.cells #[.int .u64 y0, .int .u64 y1, .int .u64 y2, .int .u64 y3] 69)).alloc (.cells #[.int .u64 0, .int .u64 0, .int .u64 0, .int .u64 0] 69)) wx)
  case first =>
    go_region_with (first
      | (go_at_call 91; with_reducible refine (digits_o _ _ _ _ hx _).mono ?_; rintro e w1 ⟨r1, cap1, rfl, ho1, hl1, hg1, hb1⟩; obtain ⟨m2, g2, d2, hm2, rfl⟩ := pad_of (bt (bp (Below.refl _ _) (by first | omega | (simp [pad_size]; omega)) _ _) hb1); clear hb1; (try simp [pad_size] at hm2); have st2_w := sz3 (n := w.heap.size) (m := m2) (by omega))
      | (go_at_call 91; with_reducible refine (digits_o _ _ _ _ hy _).mono ?_; rintro e w2 ⟨r2, cap2, rfl, ho2, hl2, hg2, hb2⟩))
    all_goals (go_wp2_with fail; go_meet)
    all_goals
      obtain ⟨r2', cap2', hv2, -, -, hcell2, -⟩ := row_words (n := 15) ho2 (fl_len _ _)
      cases hv2
      refine ⟨r1, cap1, r2, cap2, rfl, rfl, row_base (row_below ho1 hb2) (by simp [pad_size]; omega), Nat.ne_of_lt (Nat.lt_of_lt_of_le hg1 hl2), hg2, fun k hk => by rw [hcell2 k hk]; simp [fl], ?_⟩
      refine bt' ?_ hb2 (by simp [pad_size]; omega)
      have hp := bp (Below.refl _ (((w.alloc (.cells #[.int .u64 x0, .int .u64 x1, .int .u64 x2, .int .u64 x3] 69)).alloc (.cells #[.int .u64 y0, .int .u64 y1, .int .u64 y2, .int .u64 y3] 69)).alloc (.cells #[.int .u64 0, .int .u64 0, .int .u64 0, .int .u64 0] 69))) (m := m2) (by simp; omega) g2 d2
      simpa using hp
  case rest =>
    obtain ⟨g1, c1, g2, c2, rfl, rfl, hr, hne, hg2, hc2, hB⟩ := hcut
    go_wp2
    go_loopw [7, 8] (fun o i wr => ∃ (k : Nat) (b : Int) (dl : Nat → Int), k ≤ 16 ∧ o = .int .u64 b ∧ i = .int .i64 k ∧ (0 ≤ b ∧ b ≤ 1) ∧ wr.ownsRow (w.heap.size + 1 + 1 + 1) 22 1 (.slice (some ⟨g1, 0, none⟩) 16 c1) 16 (encU (fl dl 16)) ∧ (∀ j, j < k → 0 ≤ dl j ∧ dl j < 65536) ∧ (∀ j, k ≤ j → dl j = dg x0 x1 x2 x3 j) ∧ Hid (sm dl k = sm (dg x0 x1 x2 x3) k - sm (dg y0 y1 y2 y3) k + b * 65536 ^ k) ∧ (∀ j, j < 16 → wr.cell? ⟨g2, j, none⟩ = some (.int .u64 (dg y0 y1 y2 y3 j))) ∧ Below (w.heap.size + 1 + 1 + 1) (((w.alloc (.cells #[.int .u64 x0, .int .u64 x1, .int .u64 x2, .int .u64 x3] 69)).alloc (.cells #[.int .u64 y0, .int .u64 y1, .int .u64 y2, .int .u64 y3] 69)).alloc (.cells #[.int .u64 0, .int .u64 0, .int .u64 0, .int .u64 0] 69)) wr) (fun _ i _ => 16 - (intOf i).toNat)
    case atStart => exact ⟨0, 0, dg x0 x1 x2 x3, by omega, rfl, rfl, by omega, hr, fun j h => by omega, fun j _ => rfl, by unfold Hid; simp [sm], hc2, hB⟩
    case round =>
      clear hr hc2 hB hg2
      obtain ⟨k, b, dl, hk, rfl, rfl, hb01, hr, hlo, hhi, hsm, hc2, hB⟩ := hrel
      obtain ⟨g1', c1', hv, hg1, hgl, hcell, hfz⟩ := row_words (n := 15) hr (fl_len _ _)
      cases hv
      by_cases hlt : k < 16
      · have ck : wr.cell? ⟨g1, k, none⟩ = some (.int .u64 (dg x0 x1 x2 x3 k)) := by rw [hcell k hlt]; simp [fl, hhi k (Nat.le_refl _)]
        have fk := hfz k
        have c2k := hc2 k hlt
        have p1 := @dg_lim x0 x1 x2 x3 k
        have p2 := @dg_lim y0 y1 y2 y3 k
        obtain ⟨p, hpe⟩ : ∃ p, Hid (dg x0 x1 x2 x3 k = p) := ⟨_, rfl⟩
        rw [hpe.out] at ck p1
        obtain ⟨t1, ht1⟩ : ∃ t, Hid (t = p + 65536) := ⟨_, rfl⟩
        obtain ⟨t2, ht2⟩ : ∃ t, Hid (t = p + 65536 - dg y0 y1 y2 y3 k) := ⟨_, rfl⟩
        obtain ⟨t, hte⟩ : ∃ t, Hid (t = p + 65536 - dg y0 y1 y2 y3 k - b) := ⟨_, rfl⟩
        have hw1 : IntKind.u64.wrap (p + 65536) = t1 := by rw [IntKind.wrap_u64]; have := ht1.out; omega
        have hw2 : IntKind.u64.wrap (t1 - dg y0 y1 y2 y3 k) = t2 := by rw [IntKind.wrap_u64]; have := ht1.out; have := ht2.out; omega
        have hw3 : IntKind.u64.wrap (t2 - b) = t := by rw [IntKind.wrap_u64]; have := hte.out; have := ht2.out; omega
        have htb : 0 ≤ t ∧ t ≤ 131071 := by have := hte.out; omega
        have hr1 : t.tmod 65536 = t % 65536 := Int.tmod_eq_emod_of_nonneg htb.1
        have hr2 : t.tdiv 65536 = t / 65536 := Int.tdiv_eq_ediv_of_nonneg htb.1
        have hnz : ¬ (65536 : Int) = 0 := by omega
        obtain ⟨b', hbe⟩ : ∃ t', Hid (t' = 1 - t / 65536) := ⟨_, rfl⟩
        have hw4 : IntKind.u64.wrap (1 - t / 65536) = b' := by rw [IntKind.wrap_u64]; have := hbe.out; omega
        clear hcell hfz
        go_wp2
        go_region
        all_goals go_wp2
        all_goals go_roundw
        case rel =>
          refine ⟨k + 1, b', upd dl k (t % 65536), by omega, rfl, by go_num, by have := hbe.out; omega, ?_, ?_, ?_, ?_, ?_, ?_⟩
          · rw [← fl_set]; exact row_set _ hr hlt
          · intro j hj; unfold upd; split
            · omega
            · exact hlo j (by omega)
          · intro j hj; unfold upd; rw [if_neg (by omega)]; exact hhi j (by omega)
          · have h := hsm.out
            show _ = _
            simp only [sm]
            rw [sm_congr (b := dl) k (fun i hi => by unfold upd; rw [if_neg (by omega)])]
            have e : upd dl k (t % 65536) k = t % 65536 := if_pos rfl
            rw [e, Int.pow_succ, h, hpe.out]
            have h2 : t % 65536 = p - dg y0 y1 y2 y3 k - b + b' * 65536 := by have := hte.out; have := hbe.out; omega
            rw [h2]
            generalize (65536 : Int) ^ k = B at *
            grind
          · intro j hj; exact (cell_other hne.symm).trans (hc2 j hj)
          · first | exact (hB.setCell (p := ⟨g1, k, none⟩) hg1 _).drew | exact (hB.drew).setCell (p := ⟨g1, k, none⟩) hg1 _
        case measure => simp [intOf]; omega
      · have hk' : k = 16 := by omega
        subst hk'
        have hc5 : ∀ k, k < 16 → wr.cell? ⟨g1, k, none⟩ = some (.int .u64 (dl k)) := fun k hk => by rw [hcell k hk]; simp [fl]
        have hl := sm_lim 16 hlo
        have hs := hsm.out
        rw [sm_dg hx, sm_dg hy] at hs
        have hval : val (Lp dl 16 0) (Lp dl 16 1) (Lp dl 16 2) (Lp dl 16 3) = val x0 x1 x2 x3 - val y0 y1 y2 y3 := by
          rw [val_Lp]; have := h.out; have e : (65536 : Int) ^ 16 = 115792089237316195423570985008687907853269984665640564039457584007913129639936 := by decide
          rw [e] at hl hs; omega
        have hH : Hid _ := hval
        have hsz : w.heap.size + 1 + 1 + 1 ≤ wr.heap.size := by have := hB.size; simpa using this
        clear hcell hfz hc2 hhi hs hl hval hsm
        go_wp2_with (go_at_call 86; refine (ofR_fit dl 16 g1 c1 (by omega) hlo (fun k h1 h2 => by omega) _ hgl hc5).mono ?_; rintro e w6 ⟨rfl, hb6⟩; obtain ⟨m1, f1, d1, hm1, rfl⟩ := pad_of (bt (a := (((w.alloc (.cells #[.int .u64 x0, .int .u64 x1, .int .u64 x2, .int .u64 x3] 69)).alloc (.cells #[.int .u64 y0, .int .u64 y1, .int .u64 y2, .int .u64 y3] 69)).alloc (.cells #[.int .u64 0, .int .u64 0, .int .u64 0, .int .u64 0] 69))) (by simpa using hB) hb6); clear hb6; simp at hm1; have st1 := sz3 (n := w.heap.size) (m := m1) hm1)
        refine bodyPost_ret (v := .agg #[.int .u64 (Lp dl 16 0), .int .u64 (Lp dl 16 1), .int .u64 (Lp dl 16 2), .int .u64 (Lp dl 16 3)]) (by simp only [results, Try.results90]; go_simp) rfl ⟨_, _, _, _, rfl, lim_Lp hlo, hH, by (repeat (first | (with_reducible exact Below.refl _ _) | (with_reducible assumption) | (with_reducible apply bd) | (with_reducible apply ba) | (with_reducible refine bp ?_ (by first | omega | (simp [pad_size]; done) | (simp [pad_size]; omega)) _ _) | (with_reducible refine bs ?_ (by first | omega | (simp [pad_size]; done) | (simp [pad_size]; omega)) _) | (with_reducible refine bt ?_ (by assumption))))⟩
end Go.Proofs.Ytmfnfnegnfpkiaa
