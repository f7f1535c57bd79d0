
/- share's calls and the reference's of that layer, where the answers of what they call are known. -/
import Derived.Test.YtligkenemocdbaaN3
import Derived.Test.YtligkenemocdbaaE4
import Derived.Test.YtligkenemocdbaaN1
set_option linter.unusedSimpArgs false
set_option linter.unusedVariables false
namespace Go.Proofs.Ytligkenemocdbaa
open Go.RowKit

theorem says_zeroR (x0 x1 x2 x3 : Int) : Says 24 #[.agg #[.int .u64 x0, .int .u64 x1, .int .u64 x2, .int .u64 x3]] (.bool (eq4 x0 x1 x2 x3 0 0 0 0)) := fun w => zero_any _ _ _ _ w
set_option maxRecDepth 100000 in
set_option maxHeartbeats 4000000 in
theorem says_worth0 {t0 t1 t2 t3 s0 s1 s2 s3 x0 x1 x2 x3 : Int} (hq : eq4 s0 s1 s2 s3 0 0 0 0 = true) : Says 11 #[.agg #[.int .u64 t0, .int .u64 t1, .int .u64 t2, .int .u64 t3], .agg #[.int .u64 s0, .int .u64 s1, .int .u64 s2, .int .u64 s3], .agg #[.int .u64 x0, .int .u64 x1, .int .u64 x2, .int .u64 x3]] (.agg #[.int .u64 0, .int .u64 0, .int .u64 0, .int .u64 0]) := by
  intro w
  have hpad := pads
  have heq := eq_num
  go_enter Try.func11, Try.ntmps11
  go_wp2
  all_goals refine bodyPost_ret (v := .agg #[.int .u64 0, .int .u64 0, .int .u64 0, .int .u64 0]) (by simp only [results, Try.results11]; go_simp) rfl ⟨rfl, by (repeat (first | (with_reducible exact Below.refl _ _) | (with_reducible assumption) | (with_reducible apply bd) | (with_reducible apply ba) | (with_reducible refine bp ?_ (by first | omega | (simp [pad_size]; done) | (simp [pad_size]; omega)) _ _) | (with_reducible refine bs ?_ (by first | omega | (simp [pad_size]; done) | (simp [pad_size]; omega)) _) | (with_reducible refine bt ?_ (by assumption))))⟩
set_option maxRecDepth 100000 in
set_option maxHeartbeats 4000000 in
theorem says_worth1 {t0 t1 t2 t3 s0 s1 s2 s3 x0 x1 x2 x3 l0 l1 l2 l3 r0 r1 r2 r3 : Int} (hq : eq4 s0 s1 s2 s3 0 0 0 0 = false) (h1 : Says 23 #[.agg #[.int .u64 x0, .int .u64 x1, .int .u64 x2, .int .u64 x3], .agg #[.int .u64 s0, .int .u64 s1, .int .u64 s2, .int .u64 s3]] (.agg #[.int .u64 l0, .int .u64 l1, .int .u64 l2, .int .u64 l3])) (h2 : Says 22 #[.agg #[.int .u64 l0, .int .u64 l1, .int .u64 l2, .int .u64 l3], .agg #[.int .u64 t0, .int .u64 t1, .int .u64 t2, .int .u64 t3], .agg #[.int .u64 s0, .int .u64 s1, .int .u64 s2, .int .u64 s3], .bool false] (.tuple #[.agg #[.int .u64 r0, .int .u64 r1, .int .u64 r2, .int .u64 r3], .int .i64 0])) : Says 11 #[.agg #[.int .u64 t0, .int .u64 t1, .int .u64 t2, .int .u64 t3], .agg #[.int .u64 s0, .int .u64 s1, .int .u64 s2, .int .u64 s3], .agg #[.int .u64 x0, .int .u64 x1, .int .u64 x2, .int .u64 x3]] (.agg #[.int .u64 r0, .int .u64 r1, .int .u64 r2, .int .u64 r3]) := by
  intro w
  have hpad := pads
  have heq := eq_num
  go_enter Try.func11, Try.ntmps11
  go_upto_region 3 with fail
  go_region_held2 (fun W => W.cell? ⟨w.heap.size, 0, none⟩ = some (.int .u64 t0) ∧ W.cell? ⟨w.heap.size, 1, none⟩ = some (.int .u64 t1) ∧ W.cell? ⟨w.heap.size, 2, none⟩ = some (.int .u64 t2) ∧ W.cell? ⟨w.heap.size, 3, none⟩ = some (.int .u64 t3) ∧ W.cell? ⟨w.heap.size + 1, 0, none⟩ = some (.int .u64 s0) ∧ W.cell? ⟨w.heap.size + 1, 1, none⟩ = some (.int .u64 s1) ∧ W.cell? ⟨w.heap.size + 1, 2, none⟩ = some (.int .u64 s2) ∧ W.cell? ⟨w.heap.size + 1, 3, none⟩ = some (.int .u64 s3) ∧ W.cell? ⟨w.heap.size + 1 + 1, 0, none⟩ = some (.int .u64 x0) ∧ W.cell? ⟨w.heap.size + 1 + 1, 1, none⟩ = some (.int .u64 x1) ∧ W.cell? ⟨w.heap.size + 1 + 1, 2, none⟩ = some (.int .u64 x2) ∧ W.cell? ⟨w.heap.size + 1 + 1, 3, none⟩ = some (.int .u64 x3)) (go_simp) (first
    | (go_at_call 23; with_reducible refine (h1.at _).mono ?_; rintro e w' ⟨rfl, hb⟩; obtain ⟨m1, g1, d1, hm1, rfl⟩ := pad_of hb; clear hb; (try simp [pad_size] at hm1); have st1_w := sz4 (n := w.heap.size) (m := m1) (by omega); (try have sa1 := sz1 (n := w.heap.size + 1 + 1 + 1 + 1) (m := m1) (by omega)))
    | (go_at_call 22; with_reducible refine (h2.at _).mono ?_; rintro e w' ⟨rfl, hb⟩; obtain ⟨m2, g2, d2, hm2, rfl⟩ := pad_of hb; clear hb; (try simp [pad_size] at hm2); have st2_w := sz4 (n := w.heap.size) (m := m2) (by omega); (try have sa2 := sz1 (n := w.heap.size + 1 + 1 + 1 + 1) (m := m2) (by omega)); (try have sb2_1 := sz1 (n := m1) (m := m2) (by omega))))
  all_goals go_wp2
  all_goals refine bodyPost_ret (v := .agg #[.int .u64 r0, .int .u64 r1, .int .u64 r2, .int .u64 r3]) (by simp only [results, Try.results11]; go_simp) rfl ⟨rfl, by (repeat (first | (with_reducible exact Below.refl _ _) | (with_reducible assumption) | (with_reducible apply bd) | (with_reducible apply ba) | (with_reducible refine bp ?_ (by first | omega | (simp [pad_size]; done) | (simp [pad_size]; omega)) _ _) | (with_reducible refine bs ?_ (by first | omega | (simp [pad_size]; done) | (simp [pad_size]; omega)) _) | (with_reducible refine bt ?_ (by assumption))))⟩
set_option maxRecDepth 100000 in
set_option maxHeartbeats 4000000 in
theorem says_worthR0 {t0 t1 t2 t3 s0 s1 s2 s3 x0 x1 x2 x3 : Int} (hq : eq4 s0 s1 s2 s3 0 0 0 0 = true) : Says 12 #[.agg #[.int .u64 t0, .int .u64 t1, .int .u64 t2, .int .u64 t3], .agg #[.int .u64 s0, .int .u64 s1, .int .u64 s2, .int .u64 s3], .agg #[.int .u64 x0, .int .u64 x1, .int .u64 x2, .int .u64 x3]] (.agg #[.int .u64 0, .int .u64 0, .int .u64 0, .int .u64 0]) := by
  intro w
  have hpad := pads
  have heq := eq_num
  have hz := says_zeroR s0 s1 s2 s3
  rw [hq] at hz
  go_enter Try.func12, Try.ntmps12
  go_wp2_with (first
    | (go_at_call 24; with_reducible refine (hz.at _).mono ?_; rintro e w' ⟨rfl, hb⟩; obtain ⟨m1, g1, d1, hm1, rfl⟩ := pad_of hb; clear hb; (try simp [pad_size] at hm1); have st1_w := sz4 (n := w.heap.size) (m := m1) (by omega)))
  all_goals refine bodyPost_ret (v := .agg #[.int .u64 0, .int .u64 0, .int .u64 0, .int .u64 0]) (by simp only [results, Try.results12]; go_simp) rfl ⟨rfl, by (repeat (first | (with_reducible exact Below.refl _ _) | (with_reducible assumption) | (with_reducible apply bd) | (with_reducible apply ba) | (with_reducible refine bp ?_ (by first | omega | (simp [pad_size]; done) | (simp [pad_size]; omega)) _ _) | (with_reducible refine bs ?_ (by first | omega | (simp [pad_size]; done) | (simp [pad_size]; omega)) _) | (with_reducible refine bt ?_ (by assumption))))⟩
set_option maxRecDepth 100000 in
set_option maxHeartbeats 4000000 in
theorem says_worthR1 {t0 t1 t2 t3 s0 s1 s2 s3 x0 x1 x2 x3 c : Int} (hq : eq4 s0 s1 s2 s3 0 0 0 0 = false) (hc : 0 ≤ c) (h1 : Says 18 #[.agg #[.int .u64 x0, .int .u64 x1, .int .u64 x2, .int .u64 x3], .agg #[.int .u64 s0, .int .u64 s1, .int .u64 s2, .int .u64 s3]] (.int .i64 c)) : Says 12 #[.agg #[.int .u64 t0, .int .u64 t1, .int .u64 t2, .int .u64 t3], .agg #[.int .u64 s0, .int .u64 s1, .int .u64 s2, .int .u64 s3], .agg #[.int .u64 x0, .int .u64 x1, .int .u64 x2, .int .u64 x3]] (.agg #[.int .u64 t0, .int .u64 t1, .int .u64 t2, .int .u64 t3]) := by
  intro w
  have hpad := pads
  have heq := eq_num
  have hz := says_zeroR s0 s1 s2 s3
  rw [hq] at hz
  have hcd : decide (0 ≤ c) = true := by simpa using hc
  go_enter Try.func12, Try.ntmps12
  go_wp2_with (first
    | (go_at_call 24; with_reducible refine (hz.at _).mono ?_; rintro e w' ⟨rfl, hb⟩; obtain ⟨m1, g1, d1, hm1, rfl⟩ := pad_of hb; clear hb; (try simp [pad_size] at hm1); have st1_w := sz4 (n := w.heap.size) (m := m1) (by omega))
    | (go_at_call 18; with_reducible refine (h1.at _).mono ?_; rintro e w' ⟨rfl, hb⟩; obtain ⟨m2, g2, d2, hm2, rfl⟩ := pad_of hb; clear hb; (try simp [pad_size] at hm2); have st2_w := sz4 (n := w.heap.size) (m := m2) (by omega)))
  all_goals refine bodyPost_ret (v := .agg #[.int .u64 t0, .int .u64 t1, .int .u64 t2, .int .u64 t3]) (by simp only [results, Try.results12]; go_simp) rfl ⟨rfl, by (repeat (first | (with_reducible exact Below.refl _ _) | (with_reducible assumption) | (with_reducible apply bd) | (with_reducible apply ba) | (with_reducible refine bp ?_ (by first | omega | (simp [pad_size]; done) | (simp [pad_size]; omega)) _ _) | (with_reducible refine bs ?_ (by first | omega | (simp [pad_size]; done) | (simp [pad_size]; omega)) _) | (with_reducible refine bt ?_ (by assumption))))⟩
set_option maxRecDepth 100000 in
set_option maxHeartbeats 4000000 in
theorem says_worthR2 {t0 t1 t2 t3 s0 s1 s2 s3 x0 x1 x2 x3 r0 r1 r2 r3 c e : Int} (hq : eq4 s0 s1 s2 s3 0 0 0 0 = false) (hc : c < 0) (h1 : Says 18 #[.agg #[.int .u64 x0, .int .u64 x1, .int .u64 x2, .int .u64 x3], .agg #[.int .u64 s0, .int .u64 s1, .int .u64 s2, .int .u64 s3]] (.int .i64 c)) (h2 : Says 25 #[.agg #[.int .u64 x0, .int .u64 x1, .int .u64 x2, .int .u64 x3], .agg #[.int .u64 t0, .int .u64 t1, .int .u64 t2, .int .u64 t3], .agg #[.int .u64 s0, .int .u64 s1, .int .u64 s2, .int .u64 s3], .bool false] (.tuple #[.agg #[.int .u64 r0, .int .u64 r1, .int .u64 r2, .int .u64 r3], .int .i64 e])) : Says 12 #[.agg #[.int .u64 t0, .int .u64 t1, .int .u64 t2, .int .u64 t3], .agg #[.int .u64 s0, .int .u64 s1, .int .u64 s2, .int .u64 s3], .agg #[.int .u64 x0, .int .u64 x1, .int .u64 x2, .int .u64 x3]] (.agg #[.int .u64 r0, .int .u64 r1, .int .u64 r2, .int .u64 r3]) := by
  intro w
  have hpad := pads
  have heq := eq_num
  have hz := says_zeroR s0 s1 s2 s3
  rw [hq] at hz
  have hcd : decide (0 ≤ c) = false := by simpa using hc
  go_enter Try.func12, Try.ntmps12
  go_wp2_with (first
    | (go_at_call 24; with_reducible refine (hz.at _).mono ?_; rintro e w' ⟨rfl, hb⟩; obtain ⟨m1, g1, d1, hm1, rfl⟩ := pad_of hb; clear hb; (try simp [pad_size] at hm1); have st1_w := sz4 (n := w.heap.size) (m := m1) (by omega))
    | (go_at_call 18; with_reducible refine (h1.at _).mono ?_; rintro e w' ⟨rfl, hb⟩; obtain ⟨m2, g2, d2, hm2, rfl⟩ := pad_of hb; clear hb; (try simp [pad_size] at hm2); have st2_w := sz4 (n := w.heap.size) (m := m2) (by omega))
    | (go_at_call 25; with_reducible refine (h2.at _).mono ?_; rintro e w' ⟨rfl, hb⟩; obtain ⟨m3, g3, d3, hm3, rfl⟩ := pad_of hb; clear hb; (try simp [pad_size] at hm3); have st3_w := sz4 (n := w.heap.size) (m := m3) (by omega)))
  all_goals refine bodyPost_ret (v := .agg #[.int .u64 r0, .int .u64 r1, .int .u64 r2, .int .u64 r3]) (by simp only [results, Try.results12]; go_simp) rfl ⟨rfl, by (repeat (first | (with_reducible exact Below.refl _ _) | (with_reducible assumption) | (with_reducible apply bd) | (with_reducible apply ba) | (with_reducible refine bp ?_ (by first | omega | (simp [pad_size]; done) | (simp [pad_size]; omega)) _ _) | (with_reducible refine bs ?_ (by first | omega | (simp [pad_size]; done) | (simp [pad_size]; omega)) _) | (with_reducible refine bt ?_ (by assumption))))⟩
set_option maxRecDepth 100000 in
set_option maxHeartbeats 4000000 in
theorem says_shares0 {t0 t1 t2 t3 s0 s1 s2 s3 n0 n1 n2 n3 : Int} (hq : eq4 s0 s1 s2 s3 0 0 0 0 = true) : Says 13 #[.agg #[.int .u64 t0, .int .u64 t1, .int .u64 t2, .int .u64 t3], .agg #[.int .u64 s0, .int .u64 s1, .int .u64 s2, .int .u64 s3], .agg #[.int .u64 n0, .int .u64 n1, .int .u64 n2, .int .u64 n3]] (.tuple #[.agg #[.int .u64 n0, .int .u64 n1, .int .u64 n2, .int .u64 n3], .int .i64 0]) := by
  intro w
  have hpad := pads
  have heq := eq_num
  go_enter Try.func13, Try.ntmps13
  go_wp2
  all_goals refine bodyPost_ret (v := .tuple #[.agg #[.int .u64 n0, .int .u64 n1, .int .u64 n2, .int .u64 n3], .int .i64 0]) (by simp only [results, Try.results13]; go_simp) rfl ⟨rfl, by (repeat (first | (with_reducible exact Below.refl _ _) | (with_reducible assumption) | (with_reducible apply bd) | (with_reducible apply ba) | (with_reducible refine bp ?_ (by first | omega | (simp [pad_size]; done) | (simp [pad_size]; omega)) _ _) | (with_reducible refine bs ?_ (by first | omega | (simp [pad_size]; done) | (simp [pad_size]; omega)) _) | (with_reducible refine bt ?_ (by assumption))))⟩
set_option maxRecDepth 100000 in
set_option maxHeartbeats 4000000 in
theorem says_shares1 {t0 t1 t2 t3 s0 s1 s2 s3 n0 n1 n2 n3 r0 r1 r2 r3 c : Int} (hq : eq4 s0 s1 s2 s3 0 0 0 0 = false) (h1 : Says 22 #[.agg #[.int .u64 n0, .int .u64 n1, .int .u64 n2, .int .u64 n3], .agg #[.int .u64 s0, .int .u64 s1, .int .u64 s2, .int .u64 s3], .agg #[.int .u64 t0, .int .u64 t1, .int .u64 t2, .int .u64 t3], .bool false] (.tuple #[.agg #[.int .u64 r0, .int .u64 r1, .int .u64 r2, .int .u64 r3], .int .i64 c])) : Says 13 #[.agg #[.int .u64 t0, .int .u64 t1, .int .u64 t2, .int .u64 t3], .agg #[.int .u64 s0, .int .u64 s1, .int .u64 s2, .int .u64 s3], .agg #[.int .u64 n0, .int .u64 n1, .int .u64 n2, .int .u64 n3]] (.tuple #[.agg #[.int .u64 r0, .int .u64 r1, .int .u64 r2, .int .u64 r3], .int .i64 c]) := by
  intro w
  have hpad := pads
  have heq := eq_num
  go_enter Try.func13, Try.ntmps13
  go_wp2_with (first
    | (go_at_call 22; with_reducible refine (h1.at _).mono ?_; rintro e w' ⟨rfl, hb⟩; obtain ⟨m1, g1, d1, hm1, rfl⟩ := pad_of hb; clear hb; (try simp [pad_size] at hm1); have st1_w := sz4 (n := w.heap.size) (m := m1) (by omega)))
  all_goals refine bodyPost_ret (v := .tuple #[.agg #[.int .u64 r0, .int .u64 r1, .int .u64 r2, .int .u64 r3], .int .i64 c]) (by simp only [results, Try.results13]; go_simp) rfl ⟨rfl, by (repeat (first | (with_reducible exact Below.refl _ _) | (with_reducible assumption) | (with_reducible apply bd) | (with_reducible apply ba) | (with_reducible refine bp ?_ (by first | omega | (simp [pad_size]; done) | (simp [pad_size]; omega)) _ _) | (with_reducible refine bs ?_ (by first | omega | (simp [pad_size]; done) | (simp [pad_size]; omega)) _) | (with_reducible refine bt ?_ (by assumption))))⟩
set_option maxRecDepth 100000 in
set_option maxHeartbeats 4000000 in
theorem says_sharesR0 {t0 t1 t2 t3 s0 s1 s2 s3 n0 n1 n2 n3 : Int} (hq : eq4 s0 s1 s2 s3 0 0 0 0 = true) : Says 14 #[.agg #[.int .u64 t0, .int .u64 t1, .int .u64 t2, .int .u64 t3], .agg #[.int .u64 s0, .int .u64 s1, .int .u64 s2, .int .u64 s3], .agg #[.int .u64 n0, .int .u64 n1, .int .u64 n2, .int .u64 n3]] (.tuple #[.agg #[.int .u64 n0, .int .u64 n1, .int .u64 n2, .int .u64 n3], .int .i64 0]) := by
  intro w
  have hpad := pads
  have heq := eq_num
  have hz := says_zeroR s0 s1 s2 s3
  rw [hq] at hz
  go_enter Try.func14, Try.ntmps14
  go_wp2_with (first
    | (go_at_call 24; with_reducible refine (hz.at _).mono ?_; rintro e w' ⟨rfl, hb⟩; obtain ⟨m1, g1, d1, hm1, rfl⟩ := pad_of hb; clear hb; (try simp [pad_size] at hm1); have st1_w := sz4 (n := w.heap.size) (m := m1) (by omega)))
  all_goals refine bodyPost_ret (v := .tuple #[.agg #[.int .u64 n0, .int .u64 n1, .int .u64 n2, .int .u64 n3], .int .i64 0]) (by simp only [results, Try.results14]; go_simp) rfl ⟨rfl, by (repeat (first | (with_reducible exact Below.refl _ _) | (with_reducible assumption) | (with_reducible apply bd) | (with_reducible apply ba) | (with_reducible refine bp ?_ (by first | omega | (simp [pad_size]; done) | (simp [pad_size]; omega)) _ _) | (with_reducible refine bs ?_ (by first | omega | (simp [pad_size]; done) | (simp [pad_size]; omega)) _) | (with_reducible refine bt ?_ (by assumption))))⟩
set_option maxRecDepth 100000 in
set_option maxHeartbeats 4000000 in
theorem says_sharesR1 {t0 t1 t2 t3 s0 s1 s2 s3 n0 n1 n2 n3 r0 r1 r2 r3 c : Int} (hq : eq4 s0 s1 s2 s3 0 0 0 0 = false) (h1 : Says 25 #[.agg #[.int .u64 n0, .int .u64 n1, .int .u64 n2, .int .u64 n3], .agg #[.int .u64 s0, .int .u64 s1, .int .u64 s2, .int .u64 s3], .agg #[.int .u64 t0, .int .u64 t1, .int .u64 t2, .int .u64 t3], .bool false] (.tuple #[.agg #[.int .u64 r0, .int .u64 r1, .int .u64 r2, .int .u64 r3], .int .i64 c])) : Says 14 #[.agg #[.int .u64 t0, .int .u64 t1, .int .u64 t2, .int .u64 t3], .agg #[.int .u64 s0, .int .u64 s1, .int .u64 s2, .int .u64 s3], .agg #[.int .u64 n0, .int .u64 n1, .int .u64 n2, .int .u64 n3]] (.tuple #[.agg #[.int .u64 r0, .int .u64 r1, .int .u64 r2, .int .u64 r3], .int .i64 c]) := by
  intro w
  have hpad := pads
  have heq := eq_num
  have hz := says_zeroR s0 s1 s2 s3
  rw [hq] at hz
  go_enter Try.func14, Try.ntmps14
  go_wp2_with (first
    | (go_at_call 24; with_reducible refine (hz.at _).mono ?_; rintro e w' ⟨rfl, hb⟩; obtain ⟨m1, g1, d1, hm1, rfl⟩ := pad_of hb; clear hb; (try simp [pad_size] at hm1); have st1_w := sz4 (n := w.heap.size) (m := m1) (by omega))
    | (go_at_call 25; with_reducible refine (h1.at _).mono ?_; rintro e w' ⟨rfl, hb⟩; obtain ⟨m2, g2, d2, hm2, rfl⟩ := pad_of hb; clear hb; (try simp [pad_size] at hm2); have st2_w := sz4 (n := w.heap.size) (m := m2) (by omega)))
  all_goals refine bodyPost_ret (v := .tuple #[.agg #[.int .u64 r0, .int .u64 r1, .int .u64 r2, .int .u64 r3], .int .i64 c]) (by simp only [results, Try.results14]; go_simp) rfl ⟨rfl, by (repeat (first | (with_reducible exact Below.refl _ _) | (with_reducible assumption) | (with_reducible apply bd) | (with_reducible apply ba) | (with_reducible refine bp ?_ (by first | omega | (simp [pad_size]; done) | (simp [pad_size]; omega)) _ _) | (with_reducible refine bs ?_ (by first | omega | (simp [pad_size]; done) | (simp [pad_size]; omega)) _) | (with_reducible refine bt ?_ (by assumption))))⟩
end Go.Proofs.Ytligkenemocdbaa
