
/- The reference's Cmp. -/
import Derived.Test.YtmfnfnegnfpkiaaD1
import Derived.Test.YtmfnfnegnfpkiaaG
import Derived.Deep.RegionWith
import Derived.Deep.RegionHeld2
import Derived.Deep.CutRange
set_option linter.unusedSimpArgs false
set_option linter.unusedVariables false
set_option maxRecDepth 20000
namespace Go.Proofs.Ytmfnfnegnfpkiaa
open Go.RowKit

theorem digits_w (x0 x1 x2 x3 : Int) (hx : Lim x0 x1 x2 x3) (w : World) :
    Calls Try.prog 91 #[.agg #[.int .u64 x0, .int .u64 x1, .int .u64 x2, .int .u64 x3]] w fun e w' => ∃ g cap, e = .returned (.slice (some ⟨g, 0, none⟩) 16 cap) ∧ g < w'.heap.size ∧ (∀ k, k < 16 → w'.cell? ⟨g, k, none⟩ = some (.int .u64 (dg x0 x1 x2 x3 k))) ∧ Below w.heap.size w w' := by
  refine (digits_any x0 x1 x2 x3 hx w).mono ?_
  rintro e w' ⟨v, rfl, hrow, hb⟩
  rcases hrow.2 with ⟨_, h0⟩ | ⟨g, cap, cur, rfl, _, hgb, hcap, hcur⟩
  · omega
  · refine ⟨g, cap, rfl, (Array.getElem?_eq_some_iff.1 hgb).1, fun k hk => ?_, hb⟩
    have e : (List.take (16 * 1) cur.toList)[k]? = some (.int .u64 (dg x0 x1 x2 x3 k)) := by rw [hcur.2.2]; simp [encU, dgs, hk]
    rw [List.getElem?_take_of_lt (by omega)] at e
    rw [(cells_of_block hgb).1]
    simpa using e

theorem dg_val {x0 x1 x2 x3 : Int} (hx : Lim x0 x1 x2 x3) {k : Nat} (hk : k < 16) : dg x0 x1 x2 x3 k = val x0 x1 x2 x3 / 65536 ^ k % 65536 := by
  unfold Lim at hx
  rcases (show k = 0 ∨ k = 1 ∨ k = 2 ∨ k = 3 ∨ k = 4 ∨ k = 5 ∨ k = 6 ∨ k = 7 ∨ k = 8 ∨ k = 9 ∨ k = 10 ∨ k = 11 ∨ k = 12 ∨ k = 13 ∨ k = 14 ∨ k = 15 by omega) with rfl | rfl | rfl | rfl | rfl | rfl | rfl | rfl | rfl | rfl | rfl | rfl | rfl | rfl | rfl | rfl
  all_goals
    simp only [dg, lm, val, Nat.reduceLT, if_true, if_false, Nat.reduceMod, Nat.reduceMul, Int.reducePow]
    omega
theorem hi_step {x0 x1 x2 x3 : Int} (hx : Lim x0 x1 x2 x3) {k : Nat} (hk : k < 16) : val x0 x1 x2 x3 / 65536 ^ k = val x0 x1 x2 x3 / 65536 ^ (k + 1) * 65536 + dg x0 x1 x2 x3 k := by
  have e : val x0 x1 x2 x3 / 65536 ^ (k + 1) = val x0 x1 x2 x3 / 65536 ^ k / 65536 := by
    rw [Int.pow_succ]
    first
      | exact (Int.ediv_ediv_eq_ediv_mul _ (Int.pow_nonneg (by decide))).symm
      | exact (Int.ediv_ediv (Int.pow_nonneg (by decide))).symm
      | exact (Int.ediv_ediv_of_nonneg (Int.pow_nonneg (by decide))).symm
  rw [dg_val hx hk, e]
  generalize val x0 x1 x2 x3 / 65536 ^ k = q
  omega
theorem hi_top {x0 x1 x2 x3 : Int} (hx : Lim x0 x1 x2 x3) : val x0 x1 x2 x3 / 65536 ^ 16 = 0 := by
  have h0 := val_lo hx
  have h1 := val_hi hx
  exact Int.ediv_eq_zero_of_lt h0 h1
theorem lt_of_hi {a b : Int} {k : Nat} (h : a / 65536 ^ k < b / 65536 ^ k) : a < b := by
  apply Int.lt_of_not_ge
  intro hh
  have := Int.ediv_le_ediv (c := 65536 ^ k) (Int.pow_pos (by decide)) hh
  omega
theorem cmp_lt {x y : Int} (h : x < y) : cmpI x y = -1 := if_pos h
theorem cmp_gt {x y : Int} (h : y < x) : cmpI x y = 1 := by unfold cmpI; rw [if_neg (by omega), if_pos h]
theorem cmp_same (x : Int) : cmpI x x = 0 := by unfold cmpI; rw [if_neg (by omega), if_neg (by omega)]

set_option maxRecDepth 100000 in
set_option maxHeartbeats 4000000 in
theorem cmpR_any (x0 x1 x2 x3 y0 y1 y2 y3 : Int) (hx : Lim x0 x1 x2 x3) (hy : Lim y0 y1 y2 y3) (w : World) :
    Calls Try.prog 60 #[.agg #[.int .u64 x0, .int .u64 x1, .int .u64 x2, .int .u64 x3], .agg #[.int .u64 y0, .int .u64 y1, .int .u64 y2, .int .u64 y3]] w fun e w' => e = .returned (.int .i64 (cmpI (val x0 x1 x2 x3) (val y0 y1 y2 y3))) ∧ Below w.heap.size w w' := by
  have hpad := pads
  go_enter Try.func60, Try.ntmps60
  go_upto_region 1 with fail
  go_cut [5, 6] from 8 to 11 (fun s5 s6 wx => ∃ (g1 c1 g2 c2 : Nat), s5 = .slice (some ⟨g1, 0, none⟩) 16 c1 ∧ s6 = .slice (some ⟨g2, 0, none⟩) 16 c2 ∧ g1 < wx.heap.size ∧ g2 < wx.heap.size ∧ (∀ k, k < 16 → wx.cell? ⟨g1, k, none⟩ = some (.int .u64 (dg x0 x1 x2 x3 k))) ∧ (∀ k, k < 16 → wx.cell? ⟨g2, k, none⟩ = some (.int .u64 (dg y0 y1 y2 y3 k))) ∧ Below w.heap.size w wx)
  case first =>
    go_region_with (first
      | (go_at_call 91; with_reducible refine (digits_w _ _ _ _ hx _).mono ?_; rintro e w1 ⟨r1, cap1, rfl, hg1, hc1, hb1⟩; obtain ⟨m1, g1, d1, hm1, rfl⟩ := pad_of hb1; clear hb1; (try simp [pad_size] at hm1); have st1_w := sz2 (n := w.heap.size) (m := m1) (by omega))
      | (go_at_call 91; with_reducible refine (digits_w _ _ _ _ hy _).mono ?_; rintro e w2 ⟨r2, cap2, rfl, hg2, hc2, hb2⟩))
    all_goals (go_wp2_with fail; go_meet)
    all_goals exact ⟨r1, cap1, r2, cap2, rfl, rfl, Nat.lt_of_lt_of_le hg1 hb2.size, hg2, fun k hk => (hb2.cell (p := ⟨r1, k, none⟩) hg1).trans (hc1 k hk), hc2, by (repeat (first | (with_reducible exact Below.refl _ _) | (with_reducible assumption) | (with_reducible apply bd) | (with_reducible apply ba) | (with_reducible refine bp ?_ (by first | omega | (simp [pad_size]; done) | (simp [pad_size]; omega)) _ _) | (with_reducible refine bs ?_ (by first | omega | (simp [pad_size]; done) | (simp [pad_size]; omega)) _) | (with_reducible refine bt ?_ (by assumption))))⟩
  case rest =>
    obtain ⟨g1, c1, g2, c2, rfl, rfl, hg1, hg2, hc1, hc2, hB⟩ := hcut
    have hret : ∀ c : Int, c = cmpI (val x0 x1 x2 x3) (val y0 y1 y2 y3) → ∀ wz, Below wc.heap.size wc wz → (Ending.returned (.int .i64 c) = .returned (.int .i64 (cmpI (val x0 x1 x2 x3) (val y0 y1 y2 y3))) ∧ Below w.heap.size w wz) := by
      rintro c rfl wz hbz; exact ⟨rfl, bt hB hbz⟩
    go_wp2
    go_loopw [7] (fun i wr => ∃ (k m : Nat) (f : Nat → Obj) (dr : Nat), k ≤ 16 ∧ i = .int .i64 ((k : Int) - 1) ∧ wc.heap.size ≤ m ∧ wr = pad wc m f dr ∧ Hid (val x0 x1 x2 x3 / 65536 ^ k = val y0 y1 y2 y3 / 65536 ^ k)) (fun i _ => (intOf i + 1).toNat)
    case atStart =>
      obtain ⟨m, f, dr, hm, e⟩ := pad_of (Below.refl wc.heap.size wc)
      exact ⟨16, m, f, dr, by omega, rfl, hm, e, (hi_top hx).trans (hi_top hy).symm⟩
    case round =>
      obtain ⟨k, m, f, dr, hk, rfl, hm, rfl, hpre⟩ := hrel
      cases k with
      | zero =>
        go_wp2
        go_ret
        refine hret _ ?_ _ (by (repeat (first | (with_reducible exact Below.refl _ _) | (with_reducible assumption) | (with_reducible apply bd) | (with_reducible apply ba) | (with_reducible refine bp ?_ (by first | omega | (simp [pad_size]; done) | (simp [pad_size]; omega)) _ _) | (with_reducible refine bs ?_ (by first | omega | (simp [pad_size]; done) | (simp [pad_size]; omega)) _) | (with_reducible refine bt ?_ (by assumption)))))
        have h := hpre.out
        simp at h
        rw [h, cmp_same]
      | succ j =>
        have e : (((j + 1 : Nat) : Int) - 1) = (j : Int) := by omega
        rw [e]
        clear e
        have hj : j < 16 := by omega
        have d1 := hc1 j hj
        have d2 := hc2 j hj
        have s1 : Hid _ := hi_step hx hj
        have s2 : Hid _ := hi_step hy hj
        have hg1m : g1 < m := by omega
        have hg2m : g2 < m := by omega
        clear hc1 hc2
        rcases Int.lt_trichotomy (dg x0 x1 x2 x3 j) (dg y0 y1 y2 y3 j) with hlt | he | hgt
        · go_wp2
          go_region
          all_goals go_wp2
          all_goals go_ret
          all_goals
            refine hret _ ?_ _ (by (repeat (first | (with_reducible exact Below.refl _ _) | (with_reducible assumption) | (with_reducible apply bd) | (with_reducible apply ba) | (with_reducible refine bp ?_ (by first | omega | (simp [pad_size]; done) | (simp [pad_size]; omega)) _ _) | (with_reducible refine bs ?_ (by first | omega | (simp [pad_size]; done) | (simp [pad_size]; omega)) _) | (with_reducible refine bt ?_ (by assumption)))))
            have h := hpre.out; have h1 := s1.out; have h2 := s2.out
            rw [h] at h1
            exact (cmp_lt (lt_of_hi (k := j) (by omega))).symm
        · rw [← he] at d2
          go_wp2
          go_region
          all_goals go_wp2
          all_goals go_region
          all_goals go_wp2
          all_goals go_roundw
          case rel =>
            refine ⟨j, m, f, dr + 1 + 1, by omega, by go_num, hm, by first | rfl | (simp [hpad]; done), ?_⟩
            have h := hpre.out; have h1 := s1.out; have h2 := s2.out
            show _ = _
            rw [h1, h2, h, he]
          case measure => simp [intOf]
        · have hnl : ¬ dg x0 x1 x2 x3 j < dg y0 y1 y2 y3 j := by omega
          go_wp2
          go_region
          all_goals go_wp2
          all_goals go_region
          all_goals go_wp2
          all_goals go_ret
          all_goals
            refine hret _ ?_ _ (by (repeat (first | (with_reducible exact Below.refl _ _) | (with_reducible assumption) | (with_reducible apply bd) | (with_reducible apply ba) | (with_reducible refine bp ?_ (by first | omega | (simp [pad_size]; done) | (simp [pad_size]; omega)) _ _) | (with_reducible refine bs ?_ (by first | omega | (simp [pad_size]; done) | (simp [pad_size]; omega)) _) | (with_reducible refine bt ?_ (by assumption)))))
            have h := hpre.out; have h1 := s1.out; have h2 := s2.out
            rw [h] at h1
            exact (cmp_gt (lt_of_hi (k := j) (by omega))).symm
end Go.Proofs.Ytmfnfnegnfpkiaa
