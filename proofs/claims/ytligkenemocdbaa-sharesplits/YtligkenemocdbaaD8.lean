
/- The reference's Wide: the product's digits. -/
import Derived.Test.YtligkenemocdbaaD7
set_option linter.unusedSimpArgs false
set_option linter.unusedVariables false
namespace Go.Proofs.Ytligkenemocdbaa
open Go.RowKit

def Z32 : Array Value := #[.int .u64 0, .int .u64 0, .int .u64 0, .int .u64 0, .int .u64 0, .int .u64 0, .int .u64 0, .int .u64 0, .int .u64 0, .int .u64 0, .int .u64 0, .int .u64 0, .int .u64 0, .int .u64 0, .int .u64 0, .int .u64 0, .int .u64 0, .int .u64 0, .int .u64 0, .int .u64 0, .int .u64 0, .int .u64 0, .int .u64 0, .int .u64 0, .int .u64 0, .int .u64 0, .int .u64 0, .int .u64 0, .int .u64 0, .int .u64 0, .int .u64 0, .int .u64 0]
theorem make32 (w : World) : (Instr.makeSlice 42 (.int .i64 32) (.int .i64 32)).run Try.prog w = .ok (.slice (some ⟨w.heap.size, 0, none⟩) 32 32) (w.alloc (.cells Z32 22)) := by kernel_rfl
theorem row32 (w : World) : (w.alloc (.cells Z32 22)).ownsRow w.heap.size 22 1 (.slice (some ⟨w.heap.size, 0, none⟩) 32 32) 32 (encU (fl (fun _ => 0) 32)) := by
  refine ⟨by simp [encU, fl], .inr ⟨w.heap.size, 32, Z32, rfl, Nat.le_refl _, World.alloc_heap_new w _, by omega, ?_⟩⟩
  exact ⟨by decide, by rfl, by rfl⟩
theorem sm_succ (dl : Nat → Int) (k : Nat) : sm dl (k + 1) = sm dl k + dl k * 65536 ^ k := rfl
theorem sm_zero (n : Nat) : sm (fun _ => 0) n = 0 := by
  induction n with
  | zero => rfl
  | succ n ih => simp [sm, ih]
theorem sm_upd_above {dl : Nat → Int} {n k : Nat} {u : Int} (h : n ≤ k) : sm (upd dl k u) n = sm dl n :=
  sm_congr n (fun i hi => by unfold upd; rw [if_neg (by omega)])
theorem upd_at (dl : Nat → Int) (k : Nat) (u : Int) : upd dl k u k = u := if_pos rfl
theorem upd_ne {dl : Nat → Int} {k j : Nat} {u : Int} (h : j ≠ k) : upd dl k u j = dl j := if_neg h
theorem sm_stop {dl : Nat → Int} {m : Nat} (n : Nat) (h : ∀ j, m ≤ j → j < m + n → dl j = 0) : sm dl (m + n) = sm dl m := by
  induction n with
  | zero => rfl
  | succ n ih => rw [← Nat.add_assoc]; simp only [sm]; rw [ih (fun j h1 h2 => h j h1 (by omega)), h (m + n) (by omega) (by omega)]; omega

theorem mul_lim {a b : Int} (ha : 0 ≤ a ∧ a < 65536) (hb : 0 ≤ b ∧ b < 65536) : 0 ≤ a * b ∧ a * b ≤ 4294836225 := by
  refine ⟨Int.mul_nonneg ha.1 hb.1, ?_⟩
  have h1 : a * b ≤ 65535 * b := Int.mul_le_mul_of_nonneg_right (by omega) hb.1
  omega

set_option maxRecDepth 100000 in
set_option maxHeartbeats 8000000 in
theorem wide_any (x0 x1 x2 x3 y0 y1 y2 y3 : Int) (hx : Lim x0 x1 x2 x3) (hy : Lim y0 y1 y2 y3) (w : World) :
    Calls Try.prog 36 #[.agg #[.int .u64 x0, .int .u64 x1, .int .u64 x2, .int .u64 x3], .agg #[.int .u64 y0, .int .u64 y1, .int .u64 y2, .int .u64 y3]] w fun e w' => ∃ (dl : Nat → Int) (g cap : Nat), e = .returned (.slice (some ⟨g, 0, none⟩) 32 cap) ∧ w'.ownsRow w.heap.size 22 1 (.slice (some ⟨g, 0, none⟩) 32 cap) 32 (encU (fl dl 32)) ∧ (∀ i, i < 32 → 0 ≤ dl i ∧ dl i < 65536) ∧ Hid (sm dl 32 = val x0 x1 x2 x3 * val y0 y1 y2 y3) ∧ Below w.heap.size w w' := by
  have hpad := pads
  have hmk := make32
  go_enter Try.func36, Try.ntmps36
  go_upto_region 1 with fail
  go_cut [5, 6] from 12 to 15 (fun s5 s6 wx => ∃ (g1 c1 g2 c2 : Nat), s5 = .slice (some ⟨g1, 0, none⟩) 16 c1 ∧ s6 = .slice (some ⟨g2, 0, none⟩) 16 c2 ∧ g1 < wx.heap.size ∧ g2 < wx.heap.size ∧ (∀ k, k < 16 → wx.cell? ⟨g1, k, none⟩ = some (.int .u64 (dg x0 x1 x2 x3 k))) ∧ (∀ k, k < 16 → wx.cell? ⟨g2, k, none⟩ = some (.int .u64 (dg y0 y1 y2 y3 k))) ∧ Below w.heap.size w wx)
  case first =>
    go_region_with (first
      | (go_at_call 28; with_reducible refine (digits_w _ _ _ _ hx _).mono ?_; rintro e w1 ⟨r1, cap1, rfl, hg1, hc1, hb1⟩; obtain ⟨m1, g1, d1, hm1, rfl⟩ := pad_of hb1; clear hb1; (try simp [pad_size] at hm1); have st1_w := sz2 (n := w.heap.size) (m := m1) (by omega))
      | (go_at_call 28; with_reducible refine (digits_w _ _ _ _ hy _).mono ?_; rintro e w2 ⟨r2, cap2, rfl, hg2, hc2, hb2⟩))
    all_goals (go_wp2_with fail; go_meet)
    all_goals exact ⟨r1, cap1, r2, cap2, rfl, rfl, Nat.lt_of_lt_of_le hg1 hb2.size, hg2, fun k hk => (hb2.cell (p := ⟨r1, k, none⟩) hg1).trans (hc1 k hk), hc2, by (repeat (first | (with_reducible exact Below.refl _ _) | (with_reducible assumption) | (with_reducible apply bd) | (with_reducible apply ba) | (with_reducible refine bp ?_ (by first | omega | (simp [pad_size]; done) | (simp [pad_size]; omega)) _ _) | (with_reducible refine bs ?_ (by first | omega | (simp [pad_size]; done) | (simp [pad_size]; omega)) _) | (with_reducible refine bt ?_ (by assumption))))⟩
  case rest =>
    obtain ⟨g1, c1, g2, c2, rfl, rfl, hg1, hg2, hc1, hc2, hB⟩ := hcut
    have hwc := hB.size
    go_wp2
    go_loopw [8] (fun i wr => ∃ (k : Nat) (dl : Nat → Int), k ≤ 16 ∧ i = .int .i64 k ∧ wr.ownsRow wc.heap.size 22 1 (.slice (some ⟨wc.heap.size, 0, none⟩) 32 32) 32 (encU (fl dl 32)) ∧ (∀ j, j < 32 → 0 ≤ dl j ∧ dl j < 65536) ∧ (∀ j, k + 16 ≤ j → dl j = 0) ∧ Hid (sm dl (k + 16) = sm (dg x0 x1 x2 x3) k * val y0 y1 y2 y3) ∧ Below wc.heap.size wc wr) (fun i _ => 16 - (intOf i).toNat)
    case atStart => exact ⟨0, fun _ => 0, by omega, rfl, row32 wc, fun j _ => (by show (0 : Int) ≤ 0 ∧ (0 : Int) < 65536; omega), fun j _ => rfl, by unfold Hid; rw [sm_zero]; simp [sm], (Below.refl _ _).alloc (Nat.le_refl _) _⟩
    case round =>
      obtain ⟨i, dl, hi, rfl, hr, hlim, hz, hsm, hB2⟩ := hrel
      by_cases hlt : i < 16
      · go_wp2
        go_loopw [9, 10] (fun o kk wr => ∃ (k : Nat) (c : Int) (dq : Nat → Int), k ≤ 16 ∧ o = .int .u64 c ∧ kk = .int .i64 k ∧ (0 ≤ c ∧ c ≤ 65535) ∧ wr.ownsRow wc.heap.size 22 1 (.slice (some ⟨wc.heap.size, 0, none⟩) 32 32) 32 (encU (fl dq 32)) ∧ (∀ j, j < 32 → 0 ≤ dq j ∧ dq j < 65536) ∧ (∀ j, i + k ≤ j → dq j = dl j) ∧ Hid (sm dq (i + k) + c * 65536 ^ (i + k) = sm dl (i + k) + dg x0 x1 x2 x3 i * 65536 ^ i * sm (dg y0 y1 y2 y3) k) ∧ Below wc.heap.size wc wr) (fun _ kk _ => 16 - (intOf kk).toNat)
        case atStart => exact ⟨0, 0, dl, by omega, rfl, rfl, by omega, hr, hlim, fun j _ => rfl, by unfold Hid; simp [sm], hB2⟩
        case round =>
          clear hr hB2
          obtain ⟨k, c, dq, hk, rfl, rfl, hc, hr, hql, hqz, hqs, hB2⟩ := hrel
          obtain ⟨g3, c3, hv, hg3, hgl3, hcell, hfz⟩ := row_words (n := 31) hr (fl_len _ _)
          cases hv
          have hx1 : wr.cell? ⟨g1, i, none⟩ = some (.int .u64 (dg x0 x1 x2 x3 i)) := (hB2.cell (p := ⟨g1, i, none⟩) hg1).trans (hc1 i hlt)
          have p1 := @dg_lim x0 x1 x2 x3 i
          by_cases hlt2 : k < 16
          · have hy1 : wr.cell? ⟨g2, k, none⟩ = some (.int .u64 (dg y0 y1 y2 y3 k)) := (hB2.cell (p := ⟨g2, k, none⟩) hg2).trans (hc2 k hlt2)
            have p2 := @dg_lim y0 y1 y2 y3 k
            have p3 := hql (i + k) (by omega)
            have ck : wr.cell? ⟨wc.heap.size, i + k, none⟩ = some (.int .u64 (dq (i + k))) := by rw [hcell (i + k) (by omega)]; simp [fl]
            have fk := hfz (i + k)
            obtain ⟨d, hde⟩ : ∃ d, Hid (dq (i + k) = d) := ⟨_, rfl⟩
            rw [hde.out] at ck p3
            have hpb : 0 ≤ dg x0 x1 x2 x3 i * dg y0 y1 y2 y3 k ∧ dg x0 x1 x2 x3 i * dg y0 y1 y2 y3 k ≤ 4294836225 := mul_lim p1 p2
            obtain ⟨t0, ht0⟩ : ∃ t, Hid (dg x0 x1 x2 x3 i * dg y0 y1 y2 y3 k = t) := ⟨_, rfl⟩
            rw [ht0.out] at hpb
            obtain ⟨t1, ht1⟩ : ∃ t, Hid (t = d + t0) := ⟨_, rfl⟩
            obtain ⟨t, hte⟩ : ∃ t, Hid (t = d + t0 + c) := ⟨_, rfl⟩
            have hw1 : IntKind.u64.wrap (dg x0 x1 x2 x3 i * dg y0 y1 y2 y3 k) = t0 := by rw [ht0.out, IntKind.wrap_u64]; omega
            have hw2 : IntKind.u64.wrap (d + t0) = t1 := by rw [IntKind.wrap_u64]; have := ht1.out; omega
            have hw3 : IntKind.u64.wrap (t1 + c) = t := by rw [IntKind.wrap_u64]; have := hte.out; have := ht1.out; omega
            have htb : 0 ≤ t ∧ t ≤ 4294967295 := by have := hte.out; omega
            have hr1 : t.tmod 65536 = t % 65536 := Int.tmod_eq_emod_of_nonneg htb.1
            have hr2 : t.tdiv 65536 = t / 65536 := Int.tdiv_eq_ediv_of_nonneg htb.1
            have hnz : ¬ (65536 : Int) = 0 := by omega
            clear hcell hfz hpad hmk
            go_wp2
            go_region
            all_goals go_wp2
            all_goals go_roundw
            case rel =>
              refine ⟨k + 1, t / 65536, upd dq (i + k) (t % 65536), by omega, rfl, by go_num, by omega, ?_, ?_, ?_, ?_, ?_⟩
              · rw [← fl_set]; exact row_set _ hr (by omega)
              · intro j hj; unfold upd; split
                · omega
                · exact hql j hj
              · intro j hj; rw [upd_ne (by omega)]; exact hqz j (by omega)
              · have h := hqs.out
                show sm _ (i + k + 1) + _ * 65536 ^ (i + k + 1) = sm _ (i + k + 1) + _
                simp only [sm]
                rw [sm_upd_above (Nat.le_refl _), upd_at, Int.pow_succ]
                have h2 : t % 65536 + t / 65536 * 65536 = dl (i + k) + dg x0 x1 x2 x3 i * dg y0 y1 y2 y3 k + c := by
                  rw [ht0.out, ← hqz (i + k) (Nat.le_refl _), hde.out]; have := hte.out; omega
                rw [Int.pow_add] at h ⊢
                generalize (65536 : Int) ^ i = P at *
                generalize (65536 : Int) ^ k = Q at *
                have h3 : (t % 65536 + t / 65536 * 65536) * (P * Q) = (dl (i + k) + dg x0 x1 x2 x3 i * dg y0 y1 y2 y3 k + c) * (P * Q) := by rw [h2]
                grind
              · first | exact (hB2.setCell (p := ⟨wc.heap.size, i + k, none⟩) (Nat.le_refl _) _).drew | exact (hB2.drew).setCell (p := ⟨wc.heap.size, i + k, none⟩) (Nat.le_refl _) _
            case measure => simp [intOf]; omega
          · have hk' : k = 16 := by omega
            subst hk'
            have ck : wr.cell? ⟨wc.heap.size, i + 16, none⟩ = some (.int .u64 0) := by rw [hcell (i + 16) (by omega)]; simp [fl, hqz (i + 16) (Nat.le_refl _), hz (i + 16) (Nat.le_refl _)]
            have fk := hfz (i + 16)
            clear hcell hfz hpad hmk
            go_wp2
            all_goals go_roundw
            case rel =>
              refine ⟨i + 1, upd dq (i + 16) c, by omega, by go_num, ?_, ?_, ?_, ?_, ?_⟩
              · rw [← fl_set]; exact row_set _ hr (by omega)
              · intro j hj; unfold upd; split
                · omega
                · exact hql j hj
              · intro j hj; rw [upd_ne (by omega), hqz j (by omega)]; exact hz j (by omega)
              · have h := hqs.out
                have h1 := hsm.out
                show sm _ (i + 1 + 16) = _
                rw [show i + 1 + 16 = i + 16 + 1 by omega, sm_succ _ (i + 16), sm_succ _ i, sm_upd_above (Nat.le_refl _), upd_at, h, h1, sm_dg hy]
                grind
              · exact hB2.setCell (p := ⟨wc.heap.size, i + 16, none⟩) (Nat.le_refl _) _
            case measure => simp [intOf]; omega
      · have hk' : i = 16 := by omega
        subst hk'
        go_wp2
        go_ret
        refine ⟨dl, wc.heap.size, 32, rfl, row_base hr hwc, hlim, ?_, hB.trans (hB2.mono hwc)⟩
        have h := hsm.out
        rw [sm_dg hx] at h
        exact h
end Go.Proofs.Ytligkenemocdbaa
