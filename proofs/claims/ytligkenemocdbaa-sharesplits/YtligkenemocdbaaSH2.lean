
/- share's Fewest and the reference's, where the answers of what they call are known. -/
import Derived.Test.YtligkenemocdbaaSH1
set_option linter.unusedSimpArgs false
set_option linter.unusedVariables false
namespace Go.Proofs.Ytligkenemocdbaa
open Go.RowKit

set_option maxRecDepth 100000 in
set_option maxHeartbeats 4000000 in
theorem says_few0 {t0 t1 t2 t3 s0 s1 s2 s3 n0 n1 n2 n3 : Int} (hq : eq4 n0 n1 n2 n3 0 0 0 0 = true) : Says 15 #[.agg #[.int .u64 t0, .int .u64 t1, .int .u64 t2, .int .u64 t3], .agg #[.int .u64 s0, .int .u64 s1, .int .u64 s2, .int .u64 s3], .agg #[.int .u64 n0, .int .u64 n1, .int .u64 n2, .int .u64 n3]] (.tuple #[.agg #[.int .u64 0, .int .u64 0, .int .u64 0, .int .u64 0], .int .i64 0]) := by
  intro w
  have hpad := pads
  have heq := eq_num
  go_enter Try.func15, Try.ntmps15
  go_wp2
  all_goals refine bodyPost_ret (v := .tuple #[.agg #[.int .u64 0, .int .u64 0, .int .u64 0, .int .u64 0], .int .i64 0]) (by simp only [results, Try.results15]; go_simp) rfl ⟨rfl, by (repeat (first | (with_reducible exact Below.refl _ _) | (with_reducible assumption) | (with_reducible apply bd) | (with_reducible apply ba) | (with_reducible refine bp ?_ (by first | omega | (simp [pad_size]; done) | (simp [pad_size]; omega)) _ _) | (with_reducible refine bs ?_ (by first | omega | (simp [pad_size]; done) | (simp [pad_size]; omega)) _) | (with_reducible refine bt ?_ (by assumption))))⟩
set_option maxRecDepth 100000 in
set_option maxHeartbeats 4000000 in
theorem says_few1 {t0 t1 t2 t3 s0 s1 s2 s3 n0 n1 n2 n3 c : Int} (hq : eq4 n0 n1 n2 n3 0 0 0 0 = false) (hc : 0 < c) (h1 : Says 26 #[.agg #[.int .u64 n0, .int .u64 n1, .int .u64 n2, .int .u64 n3], .agg #[.int .u64 t0, .int .u64 t1, .int .u64 t2, .int .u64 t3]] (.int .i64 c)) : Says 15 #[.agg #[.int .u64 t0, .int .u64 t1, .int .u64 t2, .int .u64 t3], .agg #[.int .u64 s0, .int .u64 s1, .int .u64 s2, .int .u64 s3], .agg #[.int .u64 n0, .int .u64 n1, .int .u64 n2, .int .u64 n3]] (.tuple #[.agg #[.int .u64 0, .int .u64 0, .int .u64 0, .int .u64 0], .int .i64 3]) := by
  intro w
  have hpad := pads
  have heq := eq_num
  have hcd : decide (0 < c) = true := by simpa using hc
  go_enter Try.func15, Try.ntmps15
  go_wp2_with (first
    | (go_at_call 26; with_reducible refine (h1.at _).mono ?_; rintro e w' ⟨rfl, hb⟩; obtain ⟨m1, g1, d1, hm1, rfl⟩ := pad_of hb; clear hb; (try simp [pad_size] at hm1); have st1_w := sz4 (n := w.heap.size) (m := m1) (by omega)))
  all_goals refine bodyPost_ret (v := .tuple #[.agg #[.int .u64 0, .int .u64 0, .int .u64 0, .int .u64 0], .int .i64 3]) (by simp only [results, Try.results15]; go_simp) rfl ⟨rfl, by (repeat (first | (with_reducible exact Below.refl _ _) | (with_reducible assumption) | (with_reducible apply bd) | (with_reducible apply ba) | (with_reducible refine bp ?_ (by first | omega | (simp [pad_size]; done) | (simp [pad_size]; omega)) _ _) | (with_reducible refine bs ?_ (by first | omega | (simp [pad_size]; done) | (simp [pad_size]; omega)) _) | (with_reducible refine bt ?_ (by assumption))))⟩
set_option maxRecDepth 100000 in
set_option maxHeartbeats 4000000 in
theorem says_few2 {t0 t1 t2 t3 s0 s1 s2 s3 n0 n1 n2 n3 c : Int} (hq : eq4 n0 n1 n2 n3 0 0 0 0 = false) (hs : eq4 s0 s1 s2 s3 0 0 0 0 = true) (hc : c ≤ 0) (h1 : Says 26 #[.agg #[.int .u64 n0, .int .u64 n1, .int .u64 n2, .int .u64 n3], .agg #[.int .u64 t0, .int .u64 t1, .int .u64 t2, .int .u64 t3]] (.int .i64 c)) : Says 15 #[.agg #[.int .u64 t0, .int .u64 t1, .int .u64 t2, .int .u64 t3], .agg #[.int .u64 s0, .int .u64 s1, .int .u64 s2, .int .u64 s3], .agg #[.int .u64 n0, .int .u64 n1, .int .u64 n2, .int .u64 n3]] (.tuple #[.agg #[.int .u64 0, .int .u64 0, .int .u64 0, .int .u64 0], .int .i64 3]) := by
  intro w
  have hpad := pads
  have heq := eq_num
  have hcd : decide (0 < c) = false := by simpa using hc
  go_enter Try.func15, Try.ntmps15
  go_wp2_with (first
    | (go_at_call 26; with_reducible refine (h1.at _).mono ?_; rintro e w' ⟨rfl, hb⟩; obtain ⟨m1, g1, d1, hm1, rfl⟩ := pad_of hb; clear hb; (try simp [pad_size] at hm1); have st1_w := sz4 (n := w.heap.size) (m := m1) (by omega)))
  all_goals refine bodyPost_ret (v := .tuple #[.agg #[.int .u64 0, .int .u64 0, .int .u64 0, .int .u64 0], .int .i64 3]) (by simp only [results, Try.results15]; go_simp) rfl ⟨rfl, by (repeat (first | (with_reducible exact Below.refl _ _) | (with_reducible assumption) | (with_reducible apply bd) | (with_reducible apply ba) | (with_reducible refine bp ?_ (by first | omega | (simp [pad_size]; done) | (simp [pad_size]; omega)) _ _) | (with_reducible refine bs ?_ (by first | omega | (simp [pad_size]; done) | (simp [pad_size]; omega)) _) | (with_reducible refine bt ?_ (by assumption))))⟩
set_option maxRecDepth 100000 in
set_option maxHeartbeats 4000000 in
theorem says_few3 {t0 t1 t2 t3 s0 s1 s2 s3 n0 n1 n2 n3 r0 r1 r2 r3 c e : Int} (hq : eq4 n0 n1 n2 n3 0 0 0 0 = false) (hs : eq4 s0 s1 s2 s3 0 0 0 0 = false) (hc : c ≤ 0) (h1 : Says 26 #[.agg #[.int .u64 n0, .int .u64 n1, .int .u64 n2, .int .u64 n3], .agg #[.int .u64 t0, .int .u64 t1, .int .u64 t2, .int .u64 t3]] (.int .i64 c)) (h2 : Says 22 #[.agg #[.int .u64 n0, .int .u64 n1, .int .u64 n2, .int .u64 n3], .agg #[.int .u64 s0, .int .u64 s1, .int .u64 s2, .int .u64 s3], .agg #[.int .u64 t0, .int .u64 t1, .int .u64 t2, .int .u64 t3], .bool true] (.tuple #[.agg #[.int .u64 r0, .int .u64 r1, .int .u64 r2, .int .u64 r3], .int .i64 e])) : Says 15 #[.agg #[.int .u64 t0, .int .u64 t1, .int .u64 t2, .int .u64 t3], .agg #[.int .u64 s0, .int .u64 s1, .int .u64 s2, .int .u64 s3], .agg #[.int .u64 n0, .int .u64 n1, .int .u64 n2, .int .u64 n3]] (.tuple #[.agg #[.int .u64 r0, .int .u64 r1, .int .u64 r2, .int .u64 r3], .int .i64 e]) := by
  intro w
  have hpad := pads
  have heq := eq_num
  have hcd : decide (0 < c) = false := by simpa using hc
  go_enter Try.func15, Try.ntmps15
  go_wp2_with (first
    | (go_at_call 26; with_reducible refine (h1.at _).mono ?_; rintro e w' ⟨rfl, hb⟩; obtain ⟨m1, g1, d1, hm1, rfl⟩ := pad_of hb; clear hb; (try simp [pad_size] at hm1); have st1_w := sz4 (n := w.heap.size) (m := m1) (by omega))
    | (go_at_call 22; with_reducible refine (h2.at _).mono ?_; rintro e w' ⟨rfl, hb⟩; obtain ⟨m2, g2, d2, hm2, rfl⟩ := pad_of hb; clear hb; (try simp [pad_size] at hm2); have st2_w := sz4 (n := w.heap.size) (m := m2) (by omega)))
  all_goals refine bodyPost_ret (v := .tuple #[.agg #[.int .u64 r0, .int .u64 r1, .int .u64 r2, .int .u64 r3], .int .i64 e]) (by simp only [results, Try.results15]; go_simp) rfl ⟨rfl, by (repeat (first | (with_reducible exact Below.refl _ _) | (with_reducible assumption) | (with_reducible apply bd) | (with_reducible apply ba) | (with_reducible refine bp ?_ (by first | omega | (simp [pad_size]; done) | (simp [pad_size]; omega)) _ _) | (with_reducible refine bs ?_ (by first | omega | (simp [pad_size]; done) | (simp [pad_size]; omega)) _) | (with_reducible refine bt ?_ (by assumption))))⟩
set_option maxRecDepth 100000 in
set_option maxHeartbeats 4000000 in
theorem says_fewR0 {t0 t1 t2 t3 s0 s1 s2 s3 n0 n1 n2 n3 : Int} (hq : eq4 n0 n1 n2 n3 0 0 0 0 = true) : Says 16 #[.agg #[.int .u64 t0, .int .u64 t1, .int .u64 t2, .int .u64 t3], .agg #[.int .u64 s0, .int .u64 s1, .int .u64 s2, .int .u64 s3], .agg #[.int .u64 n0, .int .u64 n1, .int .u64 n2, .int .u64 n3]] (.tuple #[.agg #[.int .u64 n0, .int .u64 n1, .int .u64 n2, .int .u64 n3], .int .i64 0]) := by
  intro w
  have hpad := pads
  have heq := eq_num
  have hz := says_zeroR n0 n1 n2 n3
  rw [hq] at hz
  go_enter Try.func16, Try.ntmps16
  go_wp2_with (first
    | (go_at_call 24; with_reducible refine (hz.at _).mono ?_; rintro e w' ⟨rfl, hb⟩; obtain ⟨m1, g1, d1, hm1, rfl⟩ := pad_of hb; clear hb; (try simp [pad_size] at hm1); have st1_w := sz4 (n := w.heap.size) (m := m1) (by omega)))
  all_goals refine bodyPost_ret (v := .tuple #[.agg #[.int .u64 n0, .int .u64 n1, .int .u64 n2, .int .u64 n3], .int .i64 0]) (by simp only [results, Try.results16]; go_simp) rfl ⟨rfl, by (repeat (first | (with_reducible exact Below.refl _ _) | (with_reducible assumption) | (with_reducible apply bd) | (with_reducible apply ba) | (with_reducible refine bp ?_ (by first | omega | (simp [pad_size]; done) | (simp [pad_size]; omega)) _ _) | (with_reducible refine bs ?_ (by first | omega | (simp [pad_size]; done) | (simp [pad_size]; omega)) _) | (with_reducible refine bt ?_ (by assumption))))⟩
set_option maxRecDepth 100000 in
set_option maxHeartbeats 4000000 in
theorem says_fewR1 {t0 t1 t2 t3 s0 s1 s2 s3 n0 n1 n2 n3 : Int} (hq : eq4 n0 n1 n2 n3 0 0 0 0 = false) (hs : eq4 s0 s1 s2 s3 0 0 0 0 = true) : Says 16 #[.agg #[.int .u64 t0, .int .u64 t1, .int .u64 t2, .int .u64 t3], .agg #[.int .u64 s0, .int .u64 s1, .int .u64 s2, .int .u64 s3], .agg #[.int .u64 n0, .int .u64 n1, .int .u64 n2, .int .u64 n3]] (.tuple #[.agg #[.int .u64 0, .int .u64 0, .int .u64 0, .int .u64 0], .int .i64 3]) := by
  intro w
  have hpad := pads
  have heq := eq_num
  have hz := says_zeroR n0 n1 n2 n3
  rw [hq] at hz
  have hy := says_zeroR s0 s1 s2 s3
  rw [hs] at hy
  go_enter Try.func16, Try.ntmps16
  go_wp2_with (first
    | (go_at_call 24; with_reducible refine (hz.at _).mono ?_; rintro e w' ⟨rfl, hb⟩; obtain ⟨m1, g1, d1, hm1, rfl⟩ := pad_of hb; clear hb; (try simp [pad_size] at hm1); have st1_w := sz4 (n := w.heap.size) (m := m1) (by omega))
    | (go_at_call 24; with_reducible refine (hy.at _).mono ?_; rintro e w' ⟨rfl, hb⟩; obtain ⟨m2, g2, d2, hm2, rfl⟩ := pad_of hb; clear hb; (try simp [pad_size] at hm2); have st2_w := sz4 (n := w.heap.size) (m := m2) (by omega)))
  all_goals refine bodyPost_ret (v := .tuple #[.agg #[.int .u64 0, .int .u64 0, .int .u64 0, .int .u64 0], .int .i64 3]) (by simp only [results, Try.results16]; go_simp) rfl ⟨rfl, by (repeat (first | (with_reducible exact Below.refl _ _) | (with_reducible assumption) | (with_reducible apply bd) | (with_reducible apply ba) | (with_reducible refine bp ?_ (by first | omega | (simp [pad_size]; done) | (simp [pad_size]; omega)) _ _) | (with_reducible refine bs ?_ (by first | omega | (simp [pad_size]; done) | (simp [pad_size]; omega)) _) | (with_reducible refine bt ?_ (by assumption))))⟩
set_option maxRecDepth 100000 in
set_option maxHeartbeats 4000000 in
theorem says_fewR2 {t0 t1 t2 t3 s0 s1 s2 s3 n0 n1 n2 n3 c : Int} (hq : eq4 n0 n1 n2 n3 0 0 0 0 = false) (hs : eq4 s0 s1 s2 s3 0 0 0 0 = false) (hc : 0 < c) (h1 : Says 18 #[.agg #[.int .u64 n0, .int .u64 n1, .int .u64 n2, .int .u64 n3], .agg #[.int .u64 t0, .int .u64 t1, .int .u64 t2, .int .u64 t3]] (.int .i64 c)) : Says 16 #[.agg #[.int .u64 t0, .int .u64 t1, .int .u64 t2, .int .u64 t3], .agg #[.int .u64 s0, .int .u64 s1, .int .u64 s2, .int .u64 s3], .agg #[.int .u64 n0, .int .u64 n1, .int .u64 n2, .int .u64 n3]] (.tuple #[.agg #[.int .u64 0, .int .u64 0, .int .u64 0, .int .u64 0], .int .i64 3]) := by
  intro w
  have hpad := pads
  have heq := eq_num
  have hz := says_zeroR n0 n1 n2 n3
  rw [hq] at hz
  have hy := says_zeroR s0 s1 s2 s3
  rw [hs] at hy
  have hcd : decide (0 < c) = true := by simpa using hc
  go_enter Try.func16, Try.ntmps16
  go_wp2_with (first
    | (go_at_call 24; with_reducible refine (hz.at _).mono ?_; rintro e w' ⟨rfl, hb⟩; obtain ⟨m1, g1, d1, hm1, rfl⟩ := pad_of hb; clear hb; (try simp [pad_size] at hm1); have st1_w := sz4 (n := w.heap.size) (m := m1) (by omega))
    | (go_at_call 24; with_reducible refine (hy.at _).mono ?_; rintro e w' ⟨rfl, hb⟩; obtain ⟨m2, g2, d2, hm2, rfl⟩ := pad_of hb; clear hb; (try simp [pad_size] at hm2); have st2_w := sz4 (n := w.heap.size) (m := m2) (by omega))
    | (go_at_call 18; with_reducible refine (h1.at _).mono ?_; rintro e w' ⟨rfl, hb⟩; obtain ⟨m3, g3, d3, hm3, rfl⟩ := pad_of hb; clear hb; (try simp [pad_size] at hm3); have st3_w := sz4 (n := w.heap.size) (m := m3) (by omega)))
  all_goals refine bodyPost_ret (v := .tuple #[.agg #[.int .u64 0, .int .u64 0, .int .u64 0, .int .u64 0], .int .i64 3]) (by simp only [results, Try.results16]; go_simp) rfl ⟨rfl, by (repeat (first | (with_reducible exact Below.refl _ _) | (with_reducible assumption) | (with_reducible apply bd) | (with_reducible apply ba) | (with_reducible refine bp ?_ (by first | omega | (simp [pad_size]; done) | (simp [pad_size]; omega)) _ _) | (with_reducible refine bs ?_ (by first | omega | (simp [pad_size]; done) | (simp [pad_size]; omega)) _) | (with_reducible refine bt ?_ (by assumption))))⟩
set_option maxRecDepth 100000 in
set_option maxHeartbeats 4000000 in
theorem says_fewR3 {t0 t1 t2 t3 s0 s1 s2 s3 n0 n1 n2 n3 x0 x1 x2 x3 y0 y1 y2 y3 c e d : Int} (hq : eq4 n0 n1 n2 n3 0 0 0 0 = false) (hs : eq4 s0 s1 s2 s3 0 0 0 0 = false) (hc : c ≤ 0) (h1 : Says 18 #[.agg #[.int .u64 n0, .int .u64 n1, .int .u64 n2, .int .u64 n3], .agg #[.int .u64 t0, .int .u64 t1, .int .u64 t2, .int .u64 t3]] (.int .i64 c)) (h2 : Says 25 #[.agg #[.int .u64 n0, .int .u64 n1, .int .u64 n2, .int .u64 n3], .agg #[.int .u64 s0, .int .u64 s1, .int .u64 s2, .int .u64 s3], .agg #[.int .u64 t0, .int .u64 t1, .int .u64 t2, .int .u64 t3], .bool false] (.tuple #[.agg #[.int .u64 x0, .int .u64 x1, .int .u64 x2, .int .u64 x3], .int .i64 e])) (h3 : Says 12 #[.agg #[.int .u64 t0, .int .u64 t1, .int .u64 t2, .int .u64 t3], .agg #[.int .u64 s0, .int .u64 s1, .int .u64 s2, .int .u64 s3], .agg #[.int .u64 x0, .int .u64 x1, .int .u64 x2, .int .u64 x3]] (.agg #[.int .u64 y0, .int .u64 y1, .int .u64 y2, .int .u64 y3])) (hd : 0 ≤ d) (h4 : Says 18 #[.agg #[.int .u64 y0, .int .u64 y1, .int .u64 y2, .int .u64 y3], .agg #[.int .u64 n0, .int .u64 n1, .int .u64 n2, .int .u64 n3]] (.int .i64 d)) : Says 16 #[.agg #[.int .u64 t0, .int .u64 t1, .int .u64 t2, .int .u64 t3], .agg #[.int .u64 s0, .int .u64 s1, .int .u64 s2, .int .u64 s3], .agg #[.int .u64 n0, .int .u64 n1, .int .u64 n2, .int .u64 n3]] (.tuple #[.agg #[.int .u64 x0, .int .u64 x1, .int .u64 x2, .int .u64 x3], .int .i64 0]) := by
  intro w
  have hpad := pads
  have heq := eq_num
  have hz := says_zeroR n0 n1 n2 n3
  rw [hq] at hz
  have hy := says_zeroR s0 s1 s2 s3
  rw [hs] at hy
  have hcd : decide (0 < c) = false := by simpa using hc
  have hdd : decide (d < 0) = false := by simpa using hd
  have hsm := says_small 1
  go_enter Try.func16, Try.ntmps16
  go_upto_region 6 with (first
    | (go_at_call 24; with_reducible refine (hz.at _).mono ?_; rintro e w' ⟨rfl, hb⟩; obtain ⟨m1, g1, d1, hm1, rfl⟩ := pad_of hb; clear hb; (try simp [pad_size] at hm1); have st1_w := sz4 (n := w.heap.size) (m := m1) (by omega))
    | (go_at_call 24; with_reducible refine (hy.at _).mono ?_; rintro e w' ⟨rfl, hb⟩; obtain ⟨m2, g2, d2, hm2, rfl⟩ := pad_of hb; clear hb; (try simp [pad_size] at hm2); have st2_w := sz4 (n := w.heap.size) (m := m2) (by omega))
    | (go_at_call 18; with_reducible refine (h1.at _).mono ?_; rintro e w' ⟨rfl, hb⟩; obtain ⟨m3, g3, d3, hm3, rfl⟩ := pad_of hb; clear hb; (try simp [pad_size] at hm3); have st3_w := sz4 (n := w.heap.size) (m := m3) (by omega))
    | (go_at_call 25; with_reducible refine (h2.at _).mono ?_; rintro e w' ⟨rfl, hb⟩; obtain ⟨m4, g4, d4, hm4, rfl⟩ := pad_of hb; clear hb; (try simp [pad_size] at hm4); have st4_w := sz4 (n := w.heap.size) (m := m4) (by omega)))
  go_region_held2 (fun W => W.cell? ⟨w.heap.size, 0, none⟩ = some (.int .u64 t0) ∧ W.cell? ⟨w.heap.size, 1, none⟩ = some (.int .u64 t1) ∧ W.cell? ⟨w.heap.size, 2, none⟩ = some (.int .u64 t2) ∧ W.cell? ⟨w.heap.size, 3, none⟩ = some (.int .u64 t3) ∧ W.cell? ⟨w.heap.size + 1, 0, none⟩ = some (.int .u64 s0) ∧ W.cell? ⟨w.heap.size + 1, 1, none⟩ = some (.int .u64 s1) ∧ W.cell? ⟨w.heap.size + 1, 2, none⟩ = some (.int .u64 s2) ∧ W.cell? ⟨w.heap.size + 1, 3, none⟩ = some (.int .u64 s3) ∧ W.cell? ⟨w.heap.size + 1 + 1, 0, none⟩ = some (.int .u64 n0) ∧ W.cell? ⟨w.heap.size + 1 + 1, 1, none⟩ = some (.int .u64 n1) ∧ W.cell? ⟨w.heap.size + 1 + 1, 2, none⟩ = some (.int .u64 n2) ∧ W.cell? ⟨w.heap.size + 1 + 1, 3, none⟩ = some (.int .u64 n3) ∧ W.cell? ⟨m4, 0, none⟩ = some (.int .u64 x0) ∧ W.cell? ⟨m4, 1, none⟩ = some (.int .u64 x1) ∧ W.cell? ⟨m4, 2, none⟩ = some (.int .u64 x2) ∧ W.cell? ⟨m4, 3, none⟩ = some (.int .u64 x3)) (go_simp) (first
    | (go_at_call 12; with_reducible refine (h3.at _).mono ?_; rintro e w' ⟨rfl, hb⟩; obtain ⟨m5, g5, d5, hm5, rfl⟩ := pad_of hb; clear hb; (try simp [pad_size] at hm5); have st5_w := sz4 (n := w.heap.size) (m := m5) (by omega); have st5_4 := sz1 (n := m4) (m := m5) (by omega))
    | (go_at_call 18; with_reducible refine (h4.at _).mono ?_; rintro e w' ⟨rfl, hb⟩; obtain ⟨m6, g6, d6, hm6, rfl⟩ := pad_of hb; clear hb; (try simp [pad_size] at hm6); have st6_w := sz4 (n := w.heap.size) (m := m6) (by omega); have st6_4 := sz1 (n := m4) (m := m6) (by omega)))
  all_goals go_wp2
  all_goals refine bodyPost_ret (v := .tuple #[.agg #[.int .u64 x0, .int .u64 x1, .int .u64 x2, .int .u64 x3], .int .i64 0]) (by simp only [results, Try.results16]; go_simp) rfl ⟨rfl, by (repeat (first | (with_reducible exact Below.refl _ _) | (with_reducible assumption) | (with_reducible apply bd) | (with_reducible apply ba) | (with_reducible refine bp ?_ (by first | omega | (simp [pad_size]; done) | (simp [pad_size]; omega)) _ _) | (with_reducible refine bs ?_ (by first | omega | (simp [pad_size]; done) | (simp [pad_size]; omega)) _) | (with_reducible refine bt ?_ (by assumption))))⟩
set_option maxRecDepth 100000 in
set_option maxHeartbeats 4000000 in
theorem says_fewR4 {t0 t1 t2 t3 s0 s1 s2 s3 n0 n1 n2 n3 x0 x1 x2 x3 y0 y1 y2 y3 z0 z1 z2 z3 c e d : Int} (hq : eq4 n0 n1 n2 n3 0 0 0 0 = false) (hs : eq4 s0 s1 s2 s3 0 0 0 0 = false) (hc : c ≤ 0) (h1 : Says 18 #[.agg #[.int .u64 n0, .int .u64 n1, .int .u64 n2, .int .u64 n3], .agg #[.int .u64 t0, .int .u64 t1, .int .u64 t2, .int .u64 t3]] (.int .i64 c)) (h2 : Says 25 #[.agg #[.int .u64 n0, .int .u64 n1, .int .u64 n2, .int .u64 n3], .agg #[.int .u64 s0, .int .u64 s1, .int .u64 s2, .int .u64 s3], .agg #[.int .u64 t0, .int .u64 t1, .int .u64 t2, .int .u64 t3], .bool false] (.tuple #[.agg #[.int .u64 x0, .int .u64 x1, .int .u64 x2, .int .u64 x3], .int .i64 e])) (h3 : Says 12 #[.agg #[.int .u64 t0, .int .u64 t1, .int .u64 t2, .int .u64 t3], .agg #[.int .u64 s0, .int .u64 s1, .int .u64 s2, .int .u64 s3], .agg #[.int .u64 x0, .int .u64 x1, .int .u64 x2, .int .u64 x3]] (.agg #[.int .u64 y0, .int .u64 y1, .int .u64 y2, .int .u64 y3])) (hd : d < 0) (h4 : Says 18 #[.agg #[.int .u64 y0, .int .u64 y1, .int .u64 y2, .int .u64 y3], .agg #[.int .u64 n0, .int .u64 n1, .int .u64 n2, .int .u64 n3]] (.int .i64 d)) {b : Bool} (h5 : Says 21 #[.agg #[.int .u64 x0, .int .u64 x1, .int .u64 x2, .int .u64 x3], .agg #[.int .u64 1, .int .u64 0, .int .u64 0, .int .u64 0]] (.tuple #[.agg #[.int .u64 z0, .int .u64 z1, .int .u64 z2, .int .u64 z3], .bool b])) : Says 16 #[.agg #[.int .u64 t0, .int .u64 t1, .int .u64 t2, .int .u64 t3], .agg #[.int .u64 s0, .int .u64 s1, .int .u64 s2, .int .u64 s3], .agg #[.int .u64 n0, .int .u64 n1, .int .u64 n2, .int .u64 n3]] (.tuple #[.agg #[.int .u64 z0, .int .u64 z1, .int .u64 z2, .int .u64 z3], .int .i64 0]) := by
  intro w
  have hpad := pads
  have heq := eq_num
  have hz := says_zeroR n0 n1 n2 n3
  rw [hq] at hz
  have hy := says_zeroR s0 s1 s2 s3
  rw [hs] at hy
  have hcd : decide (0 < c) = false := by simpa using hc
  have hdd : decide (d < 0) = true := by simpa using hd
  have hsm := says_small 1
  go_enter Try.func16, Try.ntmps16
  go_upto_region 6 with (first
    | (go_at_call 24; with_reducible refine (hz.at _).mono ?_; rintro e w' ⟨rfl, hb⟩; obtain ⟨m1, g1, d1, hm1, rfl⟩ := pad_of hb; clear hb; (try simp [pad_size] at hm1); have st1_w := sz4 (n := w.heap.size) (m := m1) (by omega))
    | (go_at_call 24; with_reducible refine (hy.at _).mono ?_; rintro e w' ⟨rfl, hb⟩; obtain ⟨m2, g2, d2, hm2, rfl⟩ := pad_of hb; clear hb; (try simp [pad_size] at hm2); have st2_w := sz4 (n := w.heap.size) (m := m2) (by omega))
    | (go_at_call 18; with_reducible refine (h1.at _).mono ?_; rintro e w' ⟨rfl, hb⟩; obtain ⟨m3, g3, d3, hm3, rfl⟩ := pad_of hb; clear hb; (try simp [pad_size] at hm3); have st3_w := sz4 (n := w.heap.size) (m := m3) (by omega))
    | (go_at_call 25; with_reducible refine (h2.at _).mono ?_; rintro e w' ⟨rfl, hb⟩; obtain ⟨m4, g4, d4, hm4, rfl⟩ := pad_of hb; clear hb; (try simp [pad_size] at hm4); have st4_w := sz4 (n := w.heap.size) (m := m4) (by omega)))
  go_region_held2 (fun W => W.cell? ⟨w.heap.size, 0, none⟩ = some (.int .u64 t0) ∧ W.cell? ⟨w.heap.size, 1, none⟩ = some (.int .u64 t1) ∧ W.cell? ⟨w.heap.size, 2, none⟩ = some (.int .u64 t2) ∧ W.cell? ⟨w.heap.size, 3, none⟩ = some (.int .u64 t3) ∧ W.cell? ⟨w.heap.size + 1, 0, none⟩ = some (.int .u64 s0) ∧ W.cell? ⟨w.heap.size + 1, 1, none⟩ = some (.int .u64 s1) ∧ W.cell? ⟨w.heap.size + 1, 2, none⟩ = some (.int .u64 s2) ∧ W.cell? ⟨w.heap.size + 1, 3, none⟩ = some (.int .u64 s3) ∧ W.cell? ⟨w.heap.size + 1 + 1, 0, none⟩ = some (.int .u64 n0) ∧ W.cell? ⟨w.heap.size + 1 + 1, 1, none⟩ = some (.int .u64 n1) ∧ W.cell? ⟨w.heap.size + 1 + 1, 2, none⟩ = some (.int .u64 n2) ∧ W.cell? ⟨w.heap.size + 1 + 1, 3, none⟩ = some (.int .u64 n3) ∧ W.cell? ⟨m4, 0, none⟩ = some (.int .u64 x0) ∧ W.cell? ⟨m4, 1, none⟩ = some (.int .u64 x1) ∧ W.cell? ⟨m4, 2, none⟩ = some (.int .u64 x2) ∧ W.cell? ⟨m4, 3, none⟩ = some (.int .u64 x3)) (go_simp) (first
    | (go_at_call 12; with_reducible refine (h3.at _).mono ?_; rintro e w' ⟨rfl, hb⟩; obtain ⟨m5, g5, d5, hm5, rfl⟩ := pad_of hb; clear hb; (try simp [pad_size] at hm5); have st5_w := sz4 (n := w.heap.size) (m := m5) (by omega); have st5_4 := sz1 (n := m4) (m := m5) (by omega))
    | (go_at_call 18; with_reducible refine (h4.at _).mono ?_; rintro e w' ⟨rfl, hb⟩; obtain ⟨m6, g6, d6, hm6, rfl⟩ := pad_of hb; clear hb; (try simp [pad_size] at hm6); have st6_w := sz4 (n := w.heap.size) (m := m6) (by omega); have st6_4 := sz1 (n := m4) (m := m6) (by omega)))
  all_goals go_upto_region 7 with fail
  all_goals go_region_with (first
    | (go_at_call 27; with_reducible refine (hsm.at _).mono ?_; rintro e w' ⟨rfl, hb⟩; obtain ⟨m7, g7, d7, hm7, rfl⟩ := pad_of hb; clear hb; (try simp [pad_size] at hm7); have st7_w := sz4 (n := w.heap.size) (m := m7) (by omega); have st7_4 := sz1 (n := m4) (m := m7) (by omega))
    | (go_at_call 21; with_reducible refine (h5.at _).mono ?_; rintro e w' ⟨rfl, hb⟩; obtain ⟨m8, g8, d8, hm8, rfl⟩ := pad_of hb; clear hb; (try simp [pad_size] at hm8); have st8_w := sz4 (n := w.heap.size) (m := m8) (by omega); have st8_4 := sz1 (n := m4) (m := m8) (by omega)))
  all_goals go_wp2
  all_goals refine bodyPost_ret (v := .tuple #[.agg #[.int .u64 z0, .int .u64 z1, .int .u64 z2, .int .u64 z3], .int .i64 0]) (by simp only [results, Try.results16]; go_simp) rfl ⟨rfl, by (repeat (first | (with_reducible exact Below.refl _ _) | (with_reducible assumption) | (with_reducible apply bd) | (with_reducible apply ba) | (with_reducible refine bp ?_ (by first | omega | (simp [pad_size]; done) | (simp [pad_size]; omega)) _ _) | (with_reducible refine bs ?_ (by first | omega | (simp [pad_size]; done) | (simp [pad_size]; omega)) _) | (with_reducible refine bt ?_ (by assumption))))⟩
set_option maxRecDepth 100000 in
set_option maxHeartbeats 4000000 in
theorem says_partq {n0 n1 n2 n3 r0 r1 r2 r3 q e p : Int} (hp : 0 ≤ q ∧ q < 65536) (hif : (if (10000 : Int) < p then 10000 else p) = q) (h1 : Says 22 #[.agg #[.int .u64 n0, .int .u64 n1, .int .u64 n2, .int .u64 n3], .agg #[.int .u64 q, .int .u64 0, .int .u64 0, .int .u64 0], .agg #[.int .u64 10000, .int .u64 0, .int .u64 0, .int .u64 0], .bool false] (.tuple #[.agg #[.int .u64 r0, .int .u64 r1, .int .u64 r2, .int .u64 r3], .int .i64 e])) : Says 19 #[.agg #[.int .u64 n0, .int .u64 n1, .int .u64 n2, .int .u64 n3], .int .u16 p] (.agg #[.int .u64 r0, .int .u64 r1, .int .u64 r2, .int .u64 r3]) := by
  intro w
  have hpad := pads
  have heq := eq_num
  have ho : ∀ z, Says 30 #[.int .u64 z] (.agg #[.int .u64 z, .int .u64 0, .int .u64 0, .int .u64 0]) := fun z w => of_any z w
  have hw : IntKind.u64.wrap q = q := by rw [IntKind.wrap_u64]; omega
  have hmn : ∀ ts t w, (Builtin.min_ ts t #[.int .u16 p, .int .u16 10000]).run Try.prog w = .ok (.int .u16 q) w := by intro ts t w; rw [run_min_int2, hif]
  clear hif hp
  have ho1 := ho q
  have ho2 := ho 10000
  clear ho
  go_enter Try.func19, Try.ntmps19
  go_upto_region 1 with fail
  go_region_held2 (fun W => W.cell? ⟨w.heap.size, 0, none⟩ = some (.int .u64 n0) ∧ W.cell? ⟨w.heap.size, 1, none⟩ = some (.int .u64 n1) ∧ W.cell? ⟨w.heap.size, 2, none⟩ = some (.int .u64 n2) ∧ W.cell? ⟨w.heap.size, 3, none⟩ = some (.int .u64 n3)) (go_simp) (first
    | (go_at_call 30; with_reducible refine (ho1.at _).mono ?_; rintro e w' ⟨rfl, hb⟩; obtain ⟨m1, g1, d1, hm1, rfl⟩ := pad_of hb; clear hb; (try simp [pad_size] at hm1); have st1_w := sz2 (n := w.heap.size) (m := m1) (by omega); (try have sa1 := sz1 (n := w.heap.size + 1 + 1) (m := m1) (by omega)); (try have sb1_2 := sz1 (n := m2) (m := m1) (by omega)))
    | (go_at_call 30; with_reducible refine (ho2.at _).mono ?_; rintro e w' ⟨rfl, hb⟩; obtain ⟨m2, g2, d2, hm2, rfl⟩ := pad_of hb; clear hb; (try simp [pad_size] at hm2); have st2_w := sz2 (n := w.heap.size) (m := m2) (by omega); (try have sa2 := sz1 (n := w.heap.size + 1 + 1) (m := m2) (by omega)); (try have sb2_1 := sz1 (n := m1) (m := m2) (by omega)))
    | (go_at_call 22; with_reducible refine (h1.at _).mono ?_; rintro e w' ⟨rfl, hb⟩; obtain ⟨m3, g3, d3, hm3, rfl⟩ := pad_of hb; clear hb; (try simp [pad_size] at hm3); have st3_w := sz2 (n := w.heap.size) (m := m3) (by omega); (try have sa3 := sz1 (n := w.heap.size + 1 + 1) (m := m3) (by omega)); (try have sb3_1 := sz1 (n := m1) (m := m3) (by omega)); (try have sb3_2 := sz1 (n := m2) (m := m3) (by omega))))
  all_goals go_wp2
  all_goals refine bodyPost_ret (v := .agg #[.int .u64 r0, .int .u64 r1, .int .u64 r2, .int .u64 r3]) (by simp only [results, Try.results19]; go_simp) rfl ⟨rfl, by (repeat (first | (with_reducible exact Below.refl _ _) | (with_reducible assumption) | (with_reducible apply bd) | (with_reducible apply ba) | (with_reducible refine bp ?_ (by first | omega | (simp [pad_size]; done) | (simp [pad_size]; omega)) _ _) | (with_reducible refine bs ?_ (by first | omega | (simp [pad_size]; done) | (simp [pad_size]; omega)) _) | (with_reducible refine bt ?_ (by assumption))))⟩
set_option maxRecDepth 100000 in
set_option maxHeartbeats 4000000 in
theorem says_partR1 {n0 n1 n2 n3 p : Int} (hp : 0 ≤ p ∧ p < 65536) (hc : 10000 ≤ p) : Says 20 #[.agg #[.int .u64 n0, .int .u64 n1, .int .u64 n2, .int .u64 n3], .int .u16 p] (.agg #[.int .u64 n0, .int .u64 n1, .int .u64 n2, .int .u64 n3]) := by
  intro w
  have hpad := pads
  have heq := eq_num
  have hcd : decide (10000 ≤ p) = true := by simpa using hc
  go_enter Try.func20, Try.ntmps20
  go_wp2
  all_goals refine bodyPost_ret (v := .agg #[.int .u64 n0, .int .u64 n1, .int .u64 n2, .int .u64 n3]) (by simp only [results, Try.results20]; go_simp) rfl ⟨rfl, by (repeat (first | (with_reducible exact Below.refl _ _) | (with_reducible assumption) | (with_reducible apply bd) | (with_reducible apply ba) | (with_reducible refine bp ?_ (by first | omega | (simp [pad_size]; done) | (simp [pad_size]; omega)) _ _) | (with_reducible refine bs ?_ (by first | omega | (simp [pad_size]; done) | (simp [pad_size]; omega)) _) | (with_reducible refine bt ?_ (by assumption))))⟩
set_option maxRecDepth 100000 in
set_option maxHeartbeats 4000000 in
theorem says_partR0 {n0 n1 n2 n3 r0 r1 r2 r3 e p : Int} (hp : 0 ≤ p ∧ p < 65536) (hc : p < 10000) (h1 : Says 25 #[.agg #[.int .u64 n0, .int .u64 n1, .int .u64 n2, .int .u64 n3], .agg #[.int .u64 p, .int .u64 0, .int .u64 0, .int .u64 0], .agg #[.int .u64 10000, .int .u64 0, .int .u64 0, .int .u64 0], .bool false] (.tuple #[.agg #[.int .u64 r0, .int .u64 r1, .int .u64 r2, .int .u64 r3], .int .i64 e])) : Says 20 #[.agg #[.int .u64 n0, .int .u64 n1, .int .u64 n2, .int .u64 n3], .int .u16 p] (.agg #[.int .u64 r0, .int .u64 r1, .int .u64 r2, .int .u64 r3]) := by
  intro w
  have hpad := pads
  have heq := eq_num
  have hcd : decide (10000 ≤ p) = false := by simpa using hc
  have hw : IntKind.u64.wrap p = p := by rw [IntKind.wrap_u64]; omega
  have hs1 := says_small p
  have hs2 := says_small 10000
  go_enter Try.func20, Try.ntmps20
  go_upto_region 3 with fail
  go_region_held2 (fun W => W.cell? ⟨w.heap.size, 0, none⟩ = some (.int .u64 n0) ∧ W.cell? ⟨w.heap.size, 1, none⟩ = some (.int .u64 n1) ∧ W.cell? ⟨w.heap.size, 2, none⟩ = some (.int .u64 n2) ∧ W.cell? ⟨w.heap.size, 3, none⟩ = some (.int .u64 n3)) (go_simp) (first
    | (go_at_call 27; with_reducible refine (hs1.at _).mono ?_; rintro e w' ⟨rfl, hb⟩; obtain ⟨m1, g1, d1, hm1, rfl⟩ := pad_of hb; clear hb; (try simp [pad_size] at hm1); have st1_w := sz2 (n := w.heap.size) (m := m1) (by omega); (try have sa1 := sz1 (n := w.heap.size + 1 + 1) (m := m1) (by omega)); (try have sb1_2 := sz1 (n := m2) (m := m1) (by omega)))
    | (go_at_call 27; with_reducible refine (hs2.at _).mono ?_; rintro e w' ⟨rfl, hb⟩; obtain ⟨m2, g2, d2, hm2, rfl⟩ := pad_of hb; clear hb; (try simp [pad_size] at hm2); have st2_w := sz2 (n := w.heap.size) (m := m2) (by omega); (try have sa2 := sz1 (n := w.heap.size + 1 + 1) (m := m2) (by omega)); (try have sb2_1 := sz1 (n := m1) (m := m2) (by omega)))
    | (go_at_call 25; with_reducible refine (h1.at _).mono ?_; rintro e w' ⟨rfl, hb⟩; obtain ⟨m3, g3, d3, hm3, rfl⟩ := pad_of hb; clear hb; (try simp [pad_size] at hm3); have st3_w := sz2 (n := w.heap.size) (m := m3) (by omega); (try have sa3 := sz1 (n := w.heap.size + 1 + 1) (m := m3) (by omega)); (try have sb3_1 := sz1 (n := m1) (m := m3) (by omega)); (try have sb3_2 := sz1 (n := m2) (m := m3) (by omega))))
  all_goals go_wp2
  all_goals refine bodyPost_ret (v := .agg #[.int .u64 r0, .int .u64 r1, .int .u64 r2, .int .u64 r3]) (by simp only [results, Try.results20]; go_simp) rfl ⟨rfl, by (repeat (first | (with_reducible exact Below.refl _ _) | (with_reducible assumption) | (with_reducible apply bd) | (with_reducible apply ba) | (with_reducible refine bp ?_ (by first | omega | (simp [pad_size]; done) | (simp [pad_size]; omega)) _ _) | (with_reducible refine bs ?_ (by first | omega | (simp [pad_size]; done) | (simp [pad_size]; omega)) _) | (with_reducible refine bt ?_ (by assumption))))⟩
end Go.Proofs.Ytligkenemocdbaa
