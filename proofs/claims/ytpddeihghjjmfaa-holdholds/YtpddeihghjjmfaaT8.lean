
/- The reference's Least where its answer is known, and plain facts on what is left. -/
import Derived.Test.YtpddeihghjjmfaaT7
set_option linter.unusedSimpArgs false
set_option linter.unusedVariables false
namespace Go.Proofs.Ytpddeihghjjmfaa
open Go.RowKit
set_option maxRecDepth 100000 in
set_option maxHeartbeats 4000000 in
theorem says_leastR_le {x0 x1 x2 x3 y0 y1 y2 y3 c : Int} (hc : c ≤ 0) (h1 : Says 17 #[.agg #[.int .u64 x0, .int .u64 x1, .int .u64 x2, .int .u64 x3], .agg #[.int .u64 y0, .int .u64 y1, .int .u64 y2, .int .u64 y3]] (.int .i64 c)) : Says 19 #[.agg #[.int .u64 x0, .int .u64 x1, .int .u64 x2, .int .u64 x3], .agg #[.int .u64 y0, .int .u64 y1, .int .u64 y2, .int .u64 y3]] (.agg #[.int .u64 x0, .int .u64 x1, .int .u64 x2, .int .u64 x3]) := by
  intro w
  have hpad := pads
  have hcd : decide (c ≤ 0) = true := by simpa using hc
  go_enter Try.func19, Try.ntmps19
  go_wp2_with (go_at_call 17; with_reducible refine (h1.at _).mono ?_; rintro e w' ⟨rfl, hb⟩; obtain ⟨m1, g1, d1, hm1, rfl⟩ := pad_of hb; clear hb; (try simp [pad_size] at hm1); have st1_w := sz3 (n := w.heap.size) (m := m1) (by omega))
  all_goals refine bodyPost_ret (v := .agg #[.int .u64 x0, .int .u64 x1, .int .u64 x2, .int .u64 x3]) (by simp only [results, Try.results19]; go_simp) rfl ⟨rfl, by (repeat (first | (with_reducible exact Below.refl _ _) | (with_reducible assumption) | (with_reducible apply bd) | (with_reducible apply ba) | (with_reducible refine bp ?_ (by first | omega | (simp [pad_size]; done) | (simp [pad_size]; omega)) _ _) | (with_reducible refine bs ?_ (by first | omega | (simp [pad_size]; done) | (simp [pad_size]; omega)) _) | (with_reducible refine bt ?_ (by assumption))))⟩
set_option maxRecDepth 100000 in
set_option maxHeartbeats 4000000 in
theorem says_leastR_gt {x0 x1 x2 x3 y0 y1 y2 y3 c : Int} (hc : 0 < c) (h1 : Says 17 #[.agg #[.int .u64 x0, .int .u64 x1, .int .u64 x2, .int .u64 x3], .agg #[.int .u64 y0, .int .u64 y1, .int .u64 y2, .int .u64 y3]] (.int .i64 c)) : Says 19 #[.agg #[.int .u64 x0, .int .u64 x1, .int .u64 x2, .int .u64 x3], .agg #[.int .u64 y0, .int .u64 y1, .int .u64 y2, .int .u64 y3]] (.agg #[.int .u64 y0, .int .u64 y1, .int .u64 y2, .int .u64 y3]) := by
  intro w
  have hpad := pads
  have hcd : decide (c ≤ 0) = false := by simpa using hc
  go_enter Try.func19, Try.ntmps19
  go_wp2_with (go_at_call 17; with_reducible refine (h1.at _).mono ?_; rintro e w' ⟨rfl, hb⟩; obtain ⟨m1, g1, d1, hm1, rfl⟩ := pad_of hb; clear hb; (try simp [pad_size] at hm1); have st1_w := sz3 (n := w.heap.size) (m := m1) (by omega))
  all_goals refine bodyPost_ret (v := .agg #[.int .u64 y0, .int .u64 y1, .int .u64 y2, .int .u64 y3]) (by simp only [results, Try.results19]; go_simp) rfl ⟨rfl, by (repeat (first | (with_reducible exact Below.refl _ _) | (with_reducible assumption) | (with_reducible apply bd) | (with_reducible apply ba) | (with_reducible refine bp ?_ (by first | omega | (simp [pad_size]; done) | (simp [pad_size]; omega)) _ _) | (with_reducible refine bs ?_ (by first | omega | (simp [pad_size]; done) | (simp [pad_size]; omega)) _) | (with_reducible refine bt ?_ (by assumption))))⟩
theorem says_leastR {x0 x1 x2 x3 y0 y1 y2 y3 z0 z1 z2 z3 : Int} (hx : Lim x0 x1 x2 x3) (hy : Lim y0 y1 y2 y3) (hz : Lim z0 z1 z2 z3) (he : val z0 z1 z2 z3 = leastI (val x0 x1 x2 x3) (val y0 y1 y2 y3)) : Says 19 #[.agg #[.int .u64 x0, .int .u64 x1, .int .u64 x2, .int .u64 x3], .agg #[.int .u64 y0, .int .u64 y1, .int .u64 y2, .int .u64 y3]] (.agg #[.int .u64 z0, .int .u64 z1, .int .u64 z2, .int .u64 z3]) := by
  by_cases h : val x0 x1 x2 x3 ≤ val y0 y1 y2 y3
  · obtain ⟨rfl, rfl, rfl, rfl⟩ := val_inj hz hx (by rw [he]; unfold leastI; split <;> omega)
    exact says_leastR_le (cmp_le0 h) (says_cmpR hx hy rfl)
  · obtain ⟨rfl, rfl, rfl, rfl⟩ := val_inj hz hy (by rw [he]; unfold leastI; split <;> omega)
    exact says_leastR_gt (cmp_pos (by omega)) (says_cmpR hx hy rfl)
theorem cmp_nneg {x y : Int} (h : y ≤ x) : decide (cmpI x y < 0) = false := by
  simp only [decide_eq_false_iff_not]; unfold cmpI; split; omega; split <;> omega
theorem cmp_negd {x y : Int} (h : x < y) : decide (cmpI x y < 0) = true := by
  simp only [decide_eq_true_eq]; unfold cmpI; rw [if_pos h]; omega
theorem cmp_ged {x y : Int} (h : y ≤ x) : decide (0 ≤ cmpI x y) = true := by
  simp only [decide_eq_true_eq]; unfold cmpI; split; omega; split <;> omega
theorem field0 (c0 c1 c2 c3 c4 c5 c6 c7 : Value) (W : World) : Sem.run Try.prog (Instr.field 26 (.agg #[c0, c1, c2, c3, c4, c5, c6, c7]) 0) W = .ok (.agg #[c0, c1, c2, c3]) W := rfl
theorem below_drewN {n : Nat} {W : World} (k : Nat) : Below n W (W.drewN k) := by
  constructor <;> intros <;> first | rfl | simp [World.drewN]
theorem restI_eq (a b : Int) : restI a b = if b ≤ a then a - b else 0 := rfl
end Go.Proofs.Ytpddeihghjjmfaa
