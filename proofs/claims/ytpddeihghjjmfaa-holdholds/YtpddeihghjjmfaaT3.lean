
/- The reference's Spend, Back and Track, where the answers of what they call are known; the law's sum. -/
import Derived.Test.YtpddeihghjjmfaaT1
set_option linter.unusedSimpArgs false
set_option linter.unusedVariables false
namespace Go.Proofs.Ytpddeihghjjmfaa
open Go.RowKit
set_option maxRecDepth 100000 in
set_option maxHeartbeats 4000000 in
theorem says_spendR_le {b0 b1 b2 b3 l0 l1 l2 l3 k0 k1 k2 k3 c : Int} (hc : c ≤ 0) (h1 : Says 17 #[.agg #[.int .u64 l0, .int .u64 l1, .int .u64 l2, .int .u64 l3], .agg #[.int .u64 k0, .int .u64 k1, .int .u64 k2, .int .u64 k3]] (.int .i64 c)) : Says 14 #[.agg #[.int .u64 b0, .int .u64 b1, .int .u64 b2, .int .u64 b3], .agg #[.int .u64 l0, .int .u64 l1, .int .u64 l2, .int .u64 l3], .agg #[.int .u64 k0, .int .u64 k1, .int .u64 k2, .int .u64 k3]] (.agg #[.int .u64 b0, .int .u64 b1, .int .u64 b2, .int .u64 b3]) := by
  intro w
  have hpad := pads
  have hcd : decide (c ≤ 0) = true := by simpa using hc
  go_enter Try.func14, Try.ntmps14
  go_wp2_with (go_at_call 17; with_reducible refine (h1.at _).mono ?_; rintro e w' ⟨rfl, hb⟩; obtain ⟨m1, g1, d1, hm1, rfl⟩ := pad_of hb; clear hb; (try simp [pad_size] at hm1); have st1_w := sz4 (n := w.heap.size) (m := m1) (by omega))
  all_goals refine bodyPost_ret (v := .agg #[.int .u64 b0, .int .u64 b1, .int .u64 b2, .int .u64 b3]) (by simp only [results, Try.results14]; go_simp) rfl ⟨rfl, by (repeat (first | (with_reducible exact Below.refl _ _) | (with_reducible assumption) | (with_reducible apply bd) | (with_reducible apply ba) | (with_reducible refine bp ?_ (by first | omega | (simp [pad_size]; done) | (simp [pad_size]; omega)) _ _) | (with_reducible refine bs ?_ (by first | omega | (simp [pad_size]; done) | (simp [pad_size]; omega)) _) | (with_reducible refine bt ?_ (by assumption))))⟩
set_option maxRecDepth 100000 in
set_option maxHeartbeats 4000000 in
theorem says_spendR_gt {b0 b1 b2 b3 l0 l1 l2 l3 k0 k1 k2 k3 o0 o1 o2 o3 r0 r1 r2 r3 c : Int} (hc : 0 < c) (h1 : Says 17 #[.agg #[.int .u64 l0, .int .u64 l1, .int .u64 l2, .int .u64 l3], .agg #[.int .u64 k0, .int .u64 k1, .int .u64 k2, .int .u64 k3]] (.int .i64 c)) (h2 : Says 18 #[.agg #[.int .u64 l0, .int .u64 l1, .int .u64 l2, .int .u64 l3], .agg #[.int .u64 k0, .int .u64 k1, .int .u64 k2, .int .u64 k3]] (.agg #[.int .u64 o0, .int .u64 o1, .int .u64 o2, .int .u64 o3])) (h3 : Says 18 #[.agg #[.int .u64 b0, .int .u64 b1, .int .u64 b2, .int .u64 b3], .agg #[.int .u64 o0, .int .u64 o1, .int .u64 o2, .int .u64 o3]] (.agg #[.int .u64 r0, .int .u64 r1, .int .u64 r2, .int .u64 r3])) : Says 14 #[.agg #[.int .u64 b0, .int .u64 b1, .int .u64 b2, .int .u64 b3], .agg #[.int .u64 l0, .int .u64 l1, .int .u64 l2, .int .u64 l3], .agg #[.int .u64 k0, .int .u64 k1, .int .u64 k2, .int .u64 k3]] (.agg #[.int .u64 r0, .int .u64 r1, .int .u64 r2, .int .u64 r3]) := by
  intro w
  have hpad := pads
  have hcn : ¬ c ≤ 0 := by omega
  have hcd : decide (c ≤ 0) = false := by simpa using hc
  go_enter Try.func14, Try.ntmps14
  go_upto_region 3 with (go_at_call 17; with_reducible refine (h1.at _).mono ?_; rintro e w' ⟨rfl, hb⟩; obtain ⟨m1, g1, d1, hm1, rfl⟩ := pad_of hb; clear hb; (try simp [pad_size] at hm1); have st1_w := sz4 (n := w.heap.size) (m := m1) (by omega))
  go_region_held2 (fun W => W.cell? ⟨w.heap.size, 0, none⟩ = some (.int .u64 b0) ∧ W.cell? ⟨w.heap.size, 1, none⟩ = some (.int .u64 b1) ∧ W.cell? ⟨w.heap.size, 2, none⟩ = some (.int .u64 b2) ∧ W.cell? ⟨w.heap.size, 3, none⟩ = some (.int .u64 b3) ∧ W.cell? ⟨w.heap.size + 1, 0, none⟩ = some (.int .u64 l0) ∧ W.cell? ⟨w.heap.size + 1, 1, none⟩ = some (.int .u64 l1) ∧ W.cell? ⟨w.heap.size + 1, 2, none⟩ = some (.int .u64 l2) ∧ W.cell? ⟨w.heap.size + 1, 3, none⟩ = some (.int .u64 l3) ∧ W.cell? ⟨w.heap.size + 1 + 1, 0, none⟩ = some (.int .u64 k0) ∧ W.cell? ⟨w.heap.size + 1 + 1, 1, none⟩ = some (.int .u64 k1) ∧ W.cell? ⟨w.heap.size + 1 + 1, 2, none⟩ = some (.int .u64 k2) ∧ W.cell? ⟨w.heap.size + 1 + 1, 3, none⟩ = some (.int .u64 k3)) (go_simp) (first
    | (go_at_call 18; with_reducible refine (h2.at _).mono ?_; rintro e w' ⟨rfl, hb⟩; obtain ⟨m2, g2, d2, hm2, rfl⟩ := pad_of hb; clear hb; (try simp [pad_size] at hm2); have st2_w := sz4 (n := w.heap.size) (m := m2) (by omega))
    | (go_at_call 18; with_reducible refine (h3.at _).mono ?_; rintro e w' ⟨rfl, hb⟩; obtain ⟨m3, g3, d3, hm3, rfl⟩ := pad_of hb; clear hb; (try simp [pad_size] at hm3); have st3_w := sz4 (n := w.heap.size) (m := m3) (by omega)))
  all_goals go_wp2
  all_goals refine bodyPost_ret (v := .agg #[.int .u64 r0, .int .u64 r1, .int .u64 r2, .int .u64 r3]) (by simp only [results, Try.results14]; go_simp) rfl ⟨rfl, by (repeat (first | (with_reducible exact Below.refl _ _) | (with_reducible assumption) | (with_reducible apply bd) | (with_reducible apply ba) | (with_reducible refine bp ?_ (by first | omega | (simp [pad_size]; done) | (simp [pad_size]; omega)) _ _) | (with_reducible refine bs ?_ (by first | omega | (simp [pad_size]; done) | (simp [pad_size]; omega)) _) | (with_reducible refine bt ?_ (by assumption))))⟩
set_option maxRecDepth 100000 in
set_option maxHeartbeats 4000000 in
theorem says_backR_le {k0 k1 k2 k3 f0 f1 f2 f3 n0 n1 n2 n3 r0 r1 r2 r3 c : Int} (hc : c ≤ 0) (h1 : Says 17 #[.agg #[.int .u64 n0, .int .u64 n1, .int .u64 n2, .int .u64 n3], .agg #[.int .u64 f0, .int .u64 f1, .int .u64 f2, .int .u64 f3]] (.int .i64 c)) (h2 : Says 18 #[.agg #[.int .u64 f0, .int .u64 f1, .int .u64 f2, .int .u64 f3], .agg #[.int .u64 n0, .int .u64 n1, .int .u64 n2, .int .u64 n3]] (.agg #[.int .u64 r0, .int .u64 r1, .int .u64 r2, .int .u64 r3])) : Says 12 #[.agg #[.int .u64 k0, .int .u64 k1, .int .u64 k2, .int .u64 k3, .int .u64 f0, .int .u64 f1, .int .u64 f2, .int .u64 f3], .agg #[.int .u64 n0, .int .u64 n1, .int .u64 n2, .int .u64 n3]] (.agg #[.int .u64 k0, .int .u64 k1, .int .u64 k2, .int .u64 k3, .int .u64 r0, .int .u64 r1, .int .u64 r2, .int .u64 r3]) := by
  intro w
  have hpad := pads
  have hcd : decide (c ≤ 0) = true := by simpa using hc
  go_enter Try.func12, Try.ntmps12
  go_wp2_with (first | (go_at_call 17; with_reducible refine (h1.at _).mono ?_; rintro e w' ⟨rfl, hb⟩; obtain ⟨m1, g1, d1, hm1, rfl⟩ := pad_of hb; clear hb; (try simp [pad_size] at hm1); have st1_w := sz3 (n := w.heap.size) (m := m1) (by omega)) | (go_at_call 18; with_reducible refine (h2.at _).mono ?_; rintro e w' ⟨rfl, hb⟩; obtain ⟨m2, g2, d2, hm2, rfl⟩ := pad_of (bt (bp (Below.refl _ _) (by first | omega | (simp [pad_size]; omega)) _ _) hb); clear hb; (try simp [pad_size] at hm2); have st2_w := sz3 (n := w.heap.size) (m := m2) (by omega)))
  all_goals refine bodyPost_ret (v := .agg #[.int .u64 k0, .int .u64 k1, .int .u64 k2, .int .u64 k3, .int .u64 r0, .int .u64 r1, .int .u64 r2, .int .u64 r3]) (by simp only [results, Try.results12]; go_simp) rfl ⟨rfl, by (repeat (first | (with_reducible exact Below.refl _ _) | (with_reducible assumption) | (with_reducible apply bd) | (with_reducible apply ba) | (with_reducible refine bp ?_ (by first | omega | (simp [pad_size]; done) | (simp [pad_size]; omega)) _ _) | (with_reducible refine bs ?_ (by first | omega | (simp [pad_size]; done) | (simp [pad_size]; omega)) _) | (with_reducible refine bt ?_ (by assumption))))⟩
set_option maxRecDepth 100000 in
set_option maxHeartbeats 4000000 in
theorem says_backR_gt {k0 k1 k2 k3 f0 f1 f2 f3 n0 n1 n2 n3 o0 o1 o2 o3 r0 r1 r2 r3 c : Int} (hc : 0 < c) (h1 : Says 17 #[.agg #[.int .u64 n0, .int .u64 n1, .int .u64 n2, .int .u64 n3], .agg #[.int .u64 f0, .int .u64 f1, .int .u64 f2, .int .u64 f3]] (.int .i64 c)) (h2 : Says 18 #[.agg #[.int .u64 n0, .int .u64 n1, .int .u64 n2, .int .u64 n3], .agg #[.int .u64 f0, .int .u64 f1, .int .u64 f2, .int .u64 f3]] (.agg #[.int .u64 o0, .int .u64 o1, .int .u64 o2, .int .u64 o3])) (h3 : Says 18 #[.agg #[.int .u64 k0, .int .u64 k1, .int .u64 k2, .int .u64 k3], .agg #[.int .u64 o0, .int .u64 o1, .int .u64 o2, .int .u64 o3]] (.agg #[.int .u64 r0, .int .u64 r1, .int .u64 r2, .int .u64 r3])) : Says 12 #[.agg #[.int .u64 k0, .int .u64 k1, .int .u64 k2, .int .u64 k3, .int .u64 f0, .int .u64 f1, .int .u64 f2, .int .u64 f3], .agg #[.int .u64 n0, .int .u64 n1, .int .u64 n2, .int .u64 n3]] (.agg #[.int .u64 r0, .int .u64 r1, .int .u64 r2, .int .u64 r3, .int .u64 0, .int .u64 0, .int .u64 0, .int .u64 0]) := by
  intro w
  have hpad := pads
  have hcn : ¬ c ≤ 0 := by omega
  have hcd : decide (c ≤ 0) = false := by simpa using hc
  go_enter Try.func12, Try.ntmps12
  go_upto_region 4 with (go_at_call 17; with_reducible refine (h1.at _).mono ?_; rintro e w' ⟨rfl, hb⟩; obtain ⟨m1, g1, d1, hm1, rfl⟩ := pad_of hb; clear hb; (try simp [pad_size] at hm1); have st1_w := sz3 (n := w.heap.size) (m := m1) (by omega))
  go_region_held2 (fun W => W.cell? ⟨w.heap.size, 0, none⟩ = some (.int .u64 k0) ∧ W.cell? ⟨w.heap.size, 1, none⟩ = some (.int .u64 k1) ∧ W.cell? ⟨w.heap.size, 2, none⟩ = some (.int .u64 k2) ∧ W.cell? ⟨w.heap.size, 3, none⟩ = some (.int .u64 k3) ∧ W.cell? ⟨w.heap.size, 4, none⟩ = some (.int .u64 f0) ∧ W.cell? ⟨w.heap.size, 5, none⟩ = some (.int .u64 f1) ∧ W.cell? ⟨w.heap.size, 6, none⟩ = some (.int .u64 f2) ∧ W.cell? ⟨w.heap.size, 7, none⟩ = some (.int .u64 f3) ∧ W.cell? ⟨w.heap.size + 1, 0, none⟩ = some (.int .u64 n0) ∧ W.cell? ⟨w.heap.size + 1, 1, none⟩ = some (.int .u64 n1) ∧ W.cell? ⟨w.heap.size + 1, 2, none⟩ = some (.int .u64 n2) ∧ W.cell? ⟨w.heap.size + 1, 3, none⟩ = some (.int .u64 n3)) (go_simp) (first
    | (go_at_call 18; with_reducible refine (h2.at _).mono ?_; rintro e w' ⟨rfl, hb⟩; obtain ⟨m2, g2, d2, hm2, rfl⟩ := pad_of hb; clear hb; (try simp [pad_size] at hm2); have st2_w := sz3 (n := w.heap.size) (m := m2) (by omega))
    | (go_at_call 18; with_reducible refine (h3.at _).mono ?_; rintro e w' ⟨rfl, hb⟩; obtain ⟨m3, g3, d3, hm3, rfl⟩ := pad_of hb; clear hb; (try simp [pad_size] at hm3); have st3_w := sz3 (n := w.heap.size) (m := m3) (by omega)))
  all_goals go_wp2
  all_goals refine bodyPost_ret (v := .agg #[.int .u64 r0, .int .u64 r1, .int .u64 r2, .int .u64 r3, .int .u64 0, .int .u64 0, .int .u64 0, .int .u64 0]) (by simp only [results, Try.results12]; go_simp) rfl ⟨rfl, by (repeat (first | (with_reducible exact Below.refl _ _) | (with_reducible assumption) | (with_reducible apply bd) | (with_reducible apply ba) | (with_reducible refine bp ?_ (by first | omega | (simp [pad_size]; done) | (simp [pad_size]; omega)) _ _) | (with_reducible refine bs ?_ (by first | omega | (simp [pad_size]; done) | (simp [pad_size]; omega)) _) | (with_reducible refine bt ?_ (by assumption))))⟩
set_option maxRecDepth 100000 in
set_option maxHeartbeats 4000000 in
theorem says_sumH {k0 k1 k2 k3 f0 f1 f2 f3 s0 s1 s2 s3 : Int} {ok : Bool} (h1 : Says 16 #[.agg #[.int .u64 k0, .int .u64 k1, .int .u64 k2, .int .u64 k3], .agg #[.int .u64 f0, .int .u64 f1, .int .u64 f2, .int .u64 f3]] (.tuple #[.agg #[.int .u64 s0, .int .u64 s1, .int .u64 s2, .int .u64 s3], .bool ok])) : Says 15 #[.agg #[.int .u64 k0, .int .u64 k1, .int .u64 k2, .int .u64 k3, .int .u64 f0, .int .u64 f1, .int .u64 f2, .int .u64 f3]] (.tuple #[.agg #[.int .u64 s0, .int .u64 s1, .int .u64 s2, .int .u64 s3], .bool ok]) := by
  intro w
  have hpad := pads
  go_enter Try.func15, Try.ntmps15
  go_wp2_with (go_at_call 16; with_reducible refine (h1.at _).mono ?_; rintro e w' ⟨rfl, hb⟩; obtain ⟨m1, g1, d1, hm1, rfl⟩ := pad_of hb; clear hb; (try simp [pad_size] at hm1); have st1_w := sz2 (n := w.heap.size) (m := m1) (by omega))
  all_goals refine bodyPost_ret (v := .tuple #[.agg #[.int .u64 s0, .int .u64 s1, .int .u64 s2, .int .u64 s3], .bool ok]) (by simp only [results, Try.results15]; go_simp) rfl ⟨rfl, by (repeat (first | (with_reducible exact Below.refl _ _) | (with_reducible assumption) | (with_reducible apply bd) | (with_reducible apply ba) | (with_reducible refine bp ?_ (by first | omega | (simp [pad_size]; done) | (simp [pad_size]; omega)) _ _) | (with_reducible refine bs ?_ (by first | omega | (simp [pad_size]; done) | (simp [pad_size]; omega)) _) | (with_reducible refine bt ?_ (by assumption))))⟩
end Go.Proofs.Ytpddeihghjjmfaa
