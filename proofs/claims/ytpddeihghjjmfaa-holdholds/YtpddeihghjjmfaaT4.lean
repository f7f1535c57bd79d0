
/- The document's example of hold. -/
import Derived.Test.YtpddeihghjjmfaaT2
set_option linter.unusedSimpArgs false
set_option linter.unusedVariables false
namespace Go.Proofs.Ytpddeihghjjmfaa
open Go.RowKit

theorem lim1 {a : Int} (h0 : 0 ≤ a) (h1 : a < 18446744073709551616) : Lim a 0 0 0 := by unfold Lim; omega
theorem says_rest1 (a b c : Int) (ha : 0 ≤ a ∧ a < 18446744073709551616) (hb : 0 ≤ b ∧ b < 18446744073709551616) (hc : 0 ≤ c ∧ c < 18446744073709551616) (h : c = restI a b) : Says 21 #[.agg #[.int .u64 a, .int .u64 0, .int .u64 0, .int .u64 0], .agg #[.int .u64 b, .int .u64 0, .int .u64 0, .int .u64 0]] (.agg #[.int .u64 c, .int .u64 0, .int .u64 0, .int .u64 0]) :=
  says_rest (lim1 ha.1 ha.2) (lim1 hb.1 hb.2) (lim1 hc.1 hc.2) (by rw [val_of, val_of, val_of]; exact h)
set_option maxRecDepth 100000 in
set_option maxHeartbeats 4000000 in
theorem says_tracks : Says 10 #[] (.bool true) := by
  intro w
  have hpad := pads
  have heq := eq_num
  have hes := eq4_self
  have heh := eq_hold
  have he8 := eq8_self
  have hT : Says 8 #[.agg #[.int .u64 4, .int .u64 0, .int .u64 0, .int .u64 0, .int .u64 0, .int .u64 0, .int .u64 0, .int .u64 0], .agg #[.int .u64 10, .int .u64 0, .int .u64 0, .int .u64 0], .agg #[.int .u64 9, .int .u64 0, .int .u64 0, .int .u64 0]] (.tuple #[.agg #[.int .u64 10, .int .u64 0, .int .u64 0, .int .u64 0, .int .u64 3, .int .u64 0, .int .u64 0, .int .u64 0], .int .i64 0]) :=
    says_track (says_rest1 10 4 6 (by omega) (by omega) (by omega) (by decide)) (says_least (lim1 (by omega) (by omega)) (lim1 (by omega) (by omega)) (lim1 (a := 6) (by omega) (by omega)) (by simp only [val_of]; decide)) (says_rest1 9 6 3 (by omega) (by omega) (by omega) (by decide)) (says_add lim_zero (lim1 (by omega) (by omega)) (lim1 (a := 3) (by omega) (by omega)) (by simp only [val_of]; decide)) (says_add (lim1 (by omega) (by omega)) (lim1 (by omega) (by omega)) (lim1 (a := 10) (by omega) (by omega)) (by simp only [val_of]; decide))
  have hB : Says 11 #[.agg #[.int .u64 10, .int .u64 0, .int .u64 0, .int .u64 0, .int .u64 3, .int .u64 0, .int .u64 0, .int .u64 0], .agg #[.int .u64 5, .int .u64 0, .int .u64 0, .int .u64 0]] (.agg #[.int .u64 8, .int .u64 0, .int .u64 0, .int .u64 0, .int .u64 0, .int .u64 0, .int .u64 0, .int .u64 0]) :=
    says_back (says_rest1 5 3 2 (by omega) (by omega) (by omega) (by decide)) (says_rest1 10 2 8 (by omega) (by omega) (by omega) (by decide)) (says_rest1 3 5 0 (by omega) (by omega) (by omega) (by decide))
  have hS : Says 13 #[.agg #[.int .u64 9, .int .u64 0, .int .u64 0, .int .u64 0], .agg #[.int .u64 7, .int .u64 0, .int .u64 0, .int .u64 0], .agg #[.int .u64 4, .int .u64 0, .int .u64 0, .int .u64 0]] (.agg #[.int .u64 6, .int .u64 0, .int .u64 0, .int .u64 0]) :=
    says_spend (says_rest1 7 4 3 (by omega) (by omega) (by omega) (by decide)) (says_rest1 9 3 6 (by omega) (by omega) (by omega) (by decide))
  go_enter Try.func10, Try.ntmps10
  go_wp2_with (first
    | (go_at_call 8; with_reducible refine (hT.at _).mono ?_; rintro e w' ⟨rfl, hb⟩; obtain ⟨m1, g1, d1, hm1, rfl⟩ := pad_of hb; clear hb; (try simp [pad_size] at hm1); have st1_w : w.heap.size ≤ m1 := (by omega))
    | (go_at_call 11; with_reducible refine (hB.at _).mono ?_; rintro e w' ⟨rfl, hb⟩; obtain ⟨m2, g2, d2, hm2, rfl⟩ := pad_of hb; clear hb; (try simp [pad_size] at hm2); have st2_w : w.heap.size ≤ m2 := (by omega); have st2_1 := sz1 (n := m1) (m := m2) (by omega))
    | (go_at_call 13; with_reducible refine (hS.at _).mono ?_; rintro e w' ⟨rfl, hb⟩; obtain ⟨m3, g3, d3, hm3, rfl⟩ := pad_of hb; clear hb; (try simp [pad_size] at hm3); have st3_w : w.heap.size ≤ m3 := (by omega); have st3_1 := sz1 (n := m1) (m := m3) (by omega); have st3_2 := sz1 (n := m2) (m := m3) (by omega)))
  all_goals go_ret
  all_goals exact ⟨rfl, by (repeat (first | (with_reducible exact Below.refl _ _) | (with_reducible assumption) | (with_reducible apply bd) | (with_reducible apply ba) | (with_reducible refine bp ?_ (by first | omega | (simp [pad_size]; done) | (simp [pad_size]; omega)) _ _) | (with_reducible refine bs ?_ (by first | omega | (simp [pad_size]; done) | (simp [pad_size]; omega)) _) | (with_reducible refine bt ?_ (by assumption))))⟩
end Go.Proofs.Ytpddeihghjjmfaa
