
/- For every three numbers jointurelaw01.NumFloors returns true and writes nothing that was there: what is rounded down is the greatest number whose product isn't more, what is rounded up the least one whose product isn't less. No condition. -/
import Derived.Test.YtkeimndlcagbbaaN1
set_option linter.unusedSimpArgs false
set_option linter.unusedVariables false
namespace Go.Proofs.Ytkeimndlcagbbaa
open Go.ChangeShapes Go.WideShapes Go.ChangeAt Go.RowKit

set_option maxHeartbeats 4000000 in
theorem numFloors_no (x0 x1 x2 x3 y0 y1 y2 y3 z0 z1 z2 z3 c : Int) (hc : c = 1 ∨ c = 2)
    (hM : Says 25 #[.agg #[.int .u64 x0, .int .u64 x1, .int .u64 x2, .int .u64 x3], .agg #[.int .u64 y0, .int .u64 y1, .int .u64 y2, .int .u64 y3], .agg #[.int .u64 z0, .int .u64 z1, .int .u64 z2, .int .u64 z3], .bool false] (.tuple #[.agg #[.int .u64 0, .int .u64 0, .int .u64 0, .int .u64 0], .int .i64 c])) (hN : Says 25 #[.agg #[.int .u64 x0, .int .u64 x1, .int .u64 x2, .int .u64 x3], .agg #[.int .u64 y0, .int .u64 y1, .int .u64 y2, .int .u64 y3], .agg #[.int .u64 z0, .int .u64 z1, .int .u64 z2, .int .u64 z3], .bool true] (.tuple #[.agg #[.int .u64 0, .int .u64 0, .int .u64 0, .int .u64 0], .int .i64 c])) (w : World) :
    Calls Try.prog 8 #[.agg #[.int .u64 x0, .int .u64 x1, .int .u64 x2, .int .u64 x3], .agg #[.int .u64 y0, .int .u64 y1, .int .u64 y2, .int .u64 y3], .agg #[.int .u64 z0, .int .u64 z1, .int .u64 z2, .int .u64 z3]] w fun e w' => e = .returned (.bool true) ∧ Below w.heap.size w w' := by
  have hpad := pads
  rcases hc with rfl | rfl
  all_goals
    go_enter Try.func8, Try.ntmps8
    go_wp2_with (first
      | (go_at_call 25; with_reducible refine (hM.at _).mono ?_; rintro e w' ⟨rfl, hb⟩; obtain ⟨m1, g1, d1, hm1, rfl⟩ := pad_of hb; clear hb; (try simp [pad_size] at hm1); have st1_w := sz3 (n := w.heap.size) (m := m1) (by omega))
      | (go_at_call 25; with_reducible refine (hN.at _).mono ?_; rintro e w' ⟨rfl, hb⟩; obtain ⟨m2, g2, d2, hm2, rfl⟩ := pad_of hb; clear hb; (try simp [pad_size] at hm2); have st2_w := sz3 (n := w.heap.size) (m := m2) (by omega); have st2_1 := sz1 (n := m1) (m := m2) (by omega))
      | (go_at_call 18; with_reducible refine (says_halves.at _).mono ?_; rintro e w' ⟨rfl, hb⟩; obtain ⟨m3, g3, d3, hm3, rfl⟩ := pad_of hb; clear hb; (try simp [pad_size] at hm3); have st3_w := sz3 (n := w.heap.size) (m := m3) (by omega); have st3_1 := sz1 (n := m1) (m := m3) (by omega); have st3_2 := sz1 (n := m2) (m := m3) (by omega)))
    all_goals go_ret
    all_goals exact ⟨rfl, by (repeat (first | (with_reducible exact Below.refl _ _) | (with_reducible assumption) | (with_reducible apply bd) | (with_reducible apply ba) | (with_reducible refine bp ?_ (by first | omega | (simp [pad_size]; done) | (simp [pad_size]; omega)) _ _) | (with_reducible refine bs ?_ (by first | omega | (simp [pad_size]; done) | (simp [pad_size]; omega)) _) | (with_reducible refine bt ?_ (by assumption))))⟩

set_option maxRecDepth 100000 in
set_option maxHeartbeats 8000000 in
theorem numFloors_a (x0 x1 x2 x3 y0 y1 y2 y3 z0 z1 z2 z3 s0 s1 s2 s3 v0 v1 v2 v3 : Int)
    (hM : Says 25 #[.agg #[.int .u64 x0, .int .u64 x1, .int .u64 x2, .int .u64 x3], .agg #[.int .u64 y0, .int .u64 y1, .int .u64 y2, .int .u64 y3], .agg #[.int .u64 z0, .int .u64 z1, .int .u64 z2, .int .u64 z3], .bool false] (.tuple #[.agg #[.int .u64 s0, .int .u64 s1, .int .u64 s2, .int .u64 s3], .int .i64 0])) (hN : Says 25 #[.agg #[.int .u64 x0, .int .u64 x1, .int .u64 x2, .int .u64 x3], .agg #[.int .u64 y0, .int .u64 y1, .int .u64 y2, .int .u64 y3], .agg #[.int .u64 z0, .int .u64 z1, .int .u64 z2, .int .u64 z3], .bool true] (.tuple #[.agg #[.int .u64 s0, .int .u64 s1, .int .u64 s2, .int .u64 s3], .int .i64 0]))
    (hW : Says 27 #[.agg #[.int .u64 s0, .int .u64 s1, .int .u64 s2, .int .u64 s3], .agg #[.int .u64 z0, .int .u64 z1, .int .u64 z2, .int .u64 z3], .agg #[.int .u64 x0, .int .u64 x1, .int .u64 x2, .int .u64 x3], .agg #[.int .u64 y0, .int .u64 y1, .int .u64 y2, .int .u64 y3]] (.bool true)) (hA : Says 15 #[.agg #[.int .u64 s0, .int .u64 s1, .int .u64 s2, .int .u64 s3], .agg #[.int .u64 1, .int .u64 0, .int .u64 0, .int .u64 0]] (.tuple #[.agg #[.int .u64 v0, .int .u64 v1, .int .u64 v2, .int .u64 v3], .bool true])) (hW2 : Says 27 #[.agg #[.int .u64 v0, .int .u64 v1, .int .u64 v2, .int .u64 v3], .agg #[.int .u64 z0, .int .u64 z1, .int .u64 z2, .int .u64 z3], .agg #[.int .u64 x0, .int .u64 x1, .int .u64 x2, .int .u64 x3], .agg #[.int .u64 y0, .int .u64 y1, .int .u64 y2, .int .u64 y3]] (.bool false)) (hW4 : Says 27 #[.agg #[.int .u64 x0, .int .u64 x1, .int .u64 x2, .int .u64 x3], .agg #[.int .u64 y0, .int .u64 y1, .int .u64 y2, .int .u64 y3], .agg #[.int .u64 s0, .int .u64 s1, .int .u64 s2, .int .u64 s3], .agg #[.int .u64 z0, .int .u64 z1, .int .u64 z2, .int .u64 z3]] (.bool true)) (w : World) :
    Calls Try.prog 8 #[.agg #[.int .u64 x0, .int .u64 x1, .int .u64 x2, .int .u64 x3], .agg #[.int .u64 y0, .int .u64 y1, .int .u64 y2, .int .u64 y3], .agg #[.int .u64 z0, .int .u64 z1, .int .u64 z2, .int .u64 z3]] w fun e w' => e = .returned (.bool true) ∧ Below w.heap.size w w' := by
  have hpad := pads
  have heq := eq_num
  have hes := eq4_self
  have hsm := says_small 1
  go_enter Try.func8, Try.ntmps8
  go_upto_region 7 with (first
    | (go_at_call 25; with_reducible refine (hM.at _).mono ?_; rintro e w' ⟨rfl, hb⟩; obtain ⟨m1, g1, d1, hm1, rfl⟩ := pad_of hb; clear hb; (try simp [pad_size] at hm1); have st1_w := sz3 (n := w.heap.size) (m := m1) (by omega))
    | (go_at_call 25; with_reducible refine (hN.at _).mono ?_; rintro e w' ⟨rfl, hb⟩; obtain ⟨m2, g2, d2, hm2, rfl⟩ := pad_of hb; clear hb; (try simp [pad_size] at hm2); have st2_w := sz3 (n := w.heap.size) (m := m2) (by omega); have st2_1 := sz1 (n := m1) (m := m2) (by omega))
    | (go_at_call 27; with_reducible refine (hW.at _).mono ?_; rintro e w' ⟨rfl, hb⟩; obtain ⟨m3, g3, d3, hm3, rfl⟩ := pad_of hb; clear hb; (try simp [pad_size] at hm3); have st3_w := sz3 (n := w.heap.size) (m := m3) (by omega); have st3_1 := sz1 (n := m1) (m := m3) (by omega); have st3_2 := sz1 (n := m2) (m := m3) (by omega)))
  go_region_with (first
    | (go_at_call 28; with_reducible refine (hsm.at _).mono ?_; rintro e w' ⟨rfl, hb⟩; obtain ⟨m4, g4, d4, hm4, rfl⟩ := pad_of hb; clear hb; (try simp [pad_size] at hm4); have st4_w := sz3 (n := w.heap.size) (m := m4) (by omega); have st4_1 := sz1 (n := m1) (m := m4) (by omega); have st4_2 := sz1 (n := m2) (m := m4) (by omega); try (have sa4 := sz1 (n := m3) (m := m4) (by omega)))
    | (go_at_call 15; with_reducible refine (hA.at _).mono ?_; rintro e w' ⟨rfl, hb⟩; obtain ⟨m5, g5, d5, hm5, rfl⟩ := pad_of hb; clear hb; (try simp [pad_size] at hm5); have st5_w := sz3 (n := w.heap.size) (m := m5) (by omega); have st5_1 := sz1 (n := m1) (m := m5) (by omega); have st5_2 := sz1 (n := m2) (m := m5) (by omega); try (have sa5 := sz1 (n := m3) (m := m5) (by omega)); try (have sb5 := sz1 (n := m4) (m := m5) (by omega))))
  all_goals
    go_wp2_with (first
      | (go_at_call 27; with_reducible refine (hW2.at _).mono ?_; rintro e w' ⟨rfl, hb⟩; obtain ⟨m6, g6, d6, hm6, rfl⟩ := pad_of hb; clear hb; (try simp [pad_size] at hm6); have st6_w := sz3 (n := w.heap.size) (m := m6) (by omega); have st6_1 := sz1 (n := m1) (m := m6) (by omega); have st6_2 := sz1 (n := m2) (m := m6) (by omega); try (have sa6 := sz1 (n := m3) (m := m6) (by omega)); try (have sb6 := sz1 (n := m4) (m := m6) (by omega)); try (have sc6 := sz1 (n := m5) (m := m6) (by omega)))
      | (go_at_call 18; with_reducible refine (says_halves.at _).mono ?_; rintro e w' ⟨rfl, hb⟩; obtain ⟨m7, g7, d7, hm7, rfl⟩ := pad_of (bt (bp (Below.refl _ _) (by first | omega | (simp [pad_size]; omega)) _ _) hb); clear hb; (try simp [pad_size] at hm7); have st7_w := sz3 (n := w.heap.size) (m := m7) (by omega); have st7_1 := sz1 (n := m1) (m := m7) (by omega); have st7_2 := sz1 (n := m2) (m := m7) (by omega); try (have sa7 := sz1 (n := m3) (m := m7) (by omega)); try (have sb7 := sz1 (n := m4) (m := m7) (by omega)); try (have sc7 := sz1 (n := m5) (m := m7) (by omega)))
      | (go_at_call 27; with_reducible refine (hW4.at _).mono ?_; rintro e w' ⟨rfl, hb⟩; obtain ⟨m8, g8, d8, hm8, rfl⟩ := pad_of (bt (bp (Below.refl _ _) (by first | omega | (simp [pad_size]; omega)) _ _) hb); clear hb; (try simp [pad_size] at hm8); have st8_w := sz3 (n := w.heap.size) (m := m8) (by omega); have st8_1 := sz1 (n := m1) (m := m8) (by omega); have st8_2 := sz1 (n := m2) (m := m8) (by omega); try (have sa8 := sz1 (n := m3) (m := m8) (by omega)); try (have sb8 := sz1 (n := m4) (m := m8) (by omega)); try (have sc8 := sz1 (n := m5) (m := m8) (by omega))))
    all_goals go_ret
    all_goals exact ⟨rfl, by (repeat (first | (with_reducible exact Below.refl _ _) | (with_reducible assumption) | (with_reducible apply bd) | (with_reducible apply ba) | (with_reducible refine bp ?_ (by first | omega | (simp [pad_size]; done) | (simp [pad_size]; omega)) _ _) | (with_reducible refine bs ?_ (by first | omega | (simp [pad_size]; done) | (simp [pad_size]; omega)) _) | (with_reducible refine bt ?_ (by assumption))))⟩

set_option maxRecDepth 100000 in
set_option maxHeartbeats 8000000 in
theorem numFloors_b (x0 x1 x2 x3 y0 y1 y2 y3 z0 z1 z2 z3 s0 s1 s2 s3 v0 v1 v2 v3 : Int)
    (hM : Says 25 #[.agg #[.int .u64 x0, .int .u64 x1, .int .u64 x2, .int .u64 x3], .agg #[.int .u64 y0, .int .u64 y1, .int .u64 y2, .int .u64 y3], .agg #[.int .u64 z0, .int .u64 z1, .int .u64 z2, .int .u64 z3], .bool false] (.tuple #[.agg #[.int .u64 s0, .int .u64 s1, .int .u64 s2, .int .u64 s3], .int .i64 0])) (hN : Says 25 #[.agg #[.int .u64 x0, .int .u64 x1, .int .u64 x2, .int .u64 x3], .agg #[.int .u64 y0, .int .u64 y1, .int .u64 y2, .int .u64 y3], .agg #[.int .u64 z0, .int .u64 z1, .int .u64 z2, .int .u64 z3], .bool true] (.tuple #[.agg #[.int .u64 s0, .int .u64 s1, .int .u64 s2, .int .u64 s3], .int .i64 0]))
    (hW : Says 27 #[.agg #[.int .u64 s0, .int .u64 s1, .int .u64 s2, .int .u64 s3], .agg #[.int .u64 z0, .int .u64 z1, .int .u64 z2, .int .u64 z3], .agg #[.int .u64 x0, .int .u64 x1, .int .u64 x2, .int .u64 x3], .agg #[.int .u64 y0, .int .u64 y1, .int .u64 y2, .int .u64 y3]] (.bool true)) (hA : Says 15 #[.agg #[.int .u64 s0, .int .u64 s1, .int .u64 s2, .int .u64 s3], .agg #[.int .u64 1, .int .u64 0, .int .u64 0, .int .u64 0]] (.tuple #[.agg #[.int .u64 0, .int .u64 0, .int .u64 0, .int .u64 0], .bool false])) (hW4 : Says 27 #[.agg #[.int .u64 x0, .int .u64 x1, .int .u64 x2, .int .u64 x3], .agg #[.int .u64 y0, .int .u64 y1, .int .u64 y2, .int .u64 y3], .agg #[.int .u64 s0, .int .u64 s1, .int .u64 s2, .int .u64 s3], .agg #[.int .u64 z0, .int .u64 z1, .int .u64 z2, .int .u64 z3]] (.bool true)) (w : World) :
    Calls Try.prog 8 #[.agg #[.int .u64 x0, .int .u64 x1, .int .u64 x2, .int .u64 x3], .agg #[.int .u64 y0, .int .u64 y1, .int .u64 y2, .int .u64 y3], .agg #[.int .u64 z0, .int .u64 z1, .int .u64 z2, .int .u64 z3]] w fun e w' => e = .returned (.bool true) ∧ Below w.heap.size w w' := by
  have hpad := pads
  have heq := eq_num
  have hes := eq4_self
  have hsm := says_small 1
  go_enter Try.func8, Try.ntmps8
  go_upto_region 7 with (first
    | (go_at_call 25; with_reducible refine (hM.at _).mono ?_; rintro e w' ⟨rfl, hb⟩; obtain ⟨m1, g1, d1, hm1, rfl⟩ := pad_of hb; clear hb; (try simp [pad_size] at hm1); have st1_w := sz3 (n := w.heap.size) (m := m1) (by omega))
    | (go_at_call 25; with_reducible refine (hN.at _).mono ?_; rintro e w' ⟨rfl, hb⟩; obtain ⟨m2, g2, d2, hm2, rfl⟩ := pad_of hb; clear hb; (try simp [pad_size] at hm2); have st2_w := sz3 (n := w.heap.size) (m := m2) (by omega); have st2_1 := sz1 (n := m1) (m := m2) (by omega))
    | (go_at_call 27; with_reducible refine (hW.at _).mono ?_; rintro e w' ⟨rfl, hb⟩; obtain ⟨m3, g3, d3, hm3, rfl⟩ := pad_of hb; clear hb; (try simp [pad_size] at hm3); have st3_w := sz3 (n := w.heap.size) (m := m3) (by omega); have st3_1 := sz1 (n := m1) (m := m3) (by omega); have st3_2 := sz1 (n := m2) (m := m3) (by omega)))
  go_region_with (first
    | (go_at_call 28; with_reducible refine (hsm.at _).mono ?_; rintro e w' ⟨rfl, hb⟩; obtain ⟨m4, g4, d4, hm4, rfl⟩ := pad_of hb; clear hb; (try simp [pad_size] at hm4); have st4_w := sz3 (n := w.heap.size) (m := m4) (by omega); have st4_1 := sz1 (n := m1) (m := m4) (by omega); have st4_2 := sz1 (n := m2) (m := m4) (by omega); try (have sa4 := sz1 (n := m3) (m := m4) (by omega)))
    | (go_at_call 15; with_reducible refine (hA.at _).mono ?_; rintro e w' ⟨rfl, hb⟩; obtain ⟨m5, g5, d5, hm5, rfl⟩ := pad_of hb; clear hb; (try simp [pad_size] at hm5); have st5_w := sz3 (n := w.heap.size) (m := m5) (by omega); have st5_1 := sz1 (n := m1) (m := m5) (by omega); have st5_2 := sz1 (n := m2) (m := m5) (by omega); try (have sa5 := sz1 (n := m3) (m := m5) (by omega)); try (have sb5 := sz1 (n := m4) (m := m5) (by omega))))
  all_goals
    go_wp2_with (first
      | (go_at_call 18; with_reducible refine (says_halves.at _).mono ?_; rintro e w' ⟨rfl, hb⟩; obtain ⟨m7, g7, d7, hm7, rfl⟩ := pad_of hb; clear hb; (try simp [pad_size] at hm7); have st7_w := sz3 (n := w.heap.size) (m := m7) (by omega); have st7_1 := sz1 (n := m1) (m := m7) (by omega); have st7_2 := sz1 (n := m2) (m := m7) (by omega); try (have sa7 := sz1 (n := m3) (m := m7) (by omega)); try (have sb7 := sz1 (n := m4) (m := m7) (by omega)); try (have sc7 := sz1 (n := m5) (m := m7) (by omega)))
      | (go_at_call 27; with_reducible refine (hW4.at _).mono ?_; rintro e w' ⟨rfl, hb⟩; obtain ⟨m8, g8, d8, hm8, rfl⟩ := pad_of (bt (bp (Below.refl _ _) (by first | omega | (simp [pad_size]; omega)) _ _) hb); clear hb; (try simp [pad_size] at hm8); have st8_w := sz3 (n := w.heap.size) (m := m8) (by omega); have st8_1 := sz1 (n := m1) (m := m8) (by omega); have st8_2 := sz1 (n := m2) (m := m8) (by omega); try (have sa8 := sz1 (n := m3) (m := m8) (by omega)); try (have sb8 := sz1 (n := m4) (m := m8) (by omega)); try (have sc8 := sz1 (n := m5) (m := m8) (by omega))))
    all_goals go_ret
    all_goals exact ⟨rfl, by (repeat (first | (with_reducible exact Below.refl _ _) | (with_reducible assumption) | (with_reducible apply bd) | (with_reducible apply ba) | (with_reducible refine bp ?_ (by first | omega | (simp [pad_size]; done) | (simp [pad_size]; omega)) _ _) | (with_reducible refine bs ?_ (by first | omega | (simp [pad_size]; done) | (simp [pad_size]; omega)) _) | (with_reducible refine bt ?_ (by assumption))))⟩

set_option maxRecDepth 100000 in
set_option maxHeartbeats 8000000 in
theorem numFloors_c (x0 x1 x2 x3 y0 y1 y2 y3 z0 z1 z2 z3 s0 s1 s2 s3 v0 v1 v2 v3 : Int)
    (hM : Says 25 #[.agg #[.int .u64 x0, .int .u64 x1, .int .u64 x2, .int .u64 x3], .agg #[.int .u64 y0, .int .u64 y1, .int .u64 y2, .int .u64 y3], .agg #[.int .u64 z0, .int .u64 z1, .int .u64 z2, .int .u64 z3], .bool false] (.tuple #[.agg #[.int .u64 s0, .int .u64 s1, .int .u64 s2, .int .u64 s3], .int .i64 0])) (hN : Says 25 #[.agg #[.int .u64 x0, .int .u64 x1, .int .u64 x2, .int .u64 x3], .agg #[.int .u64 y0, .int .u64 y1, .int .u64 y2, .int .u64 y3], .agg #[.int .u64 z0, .int .u64 z1, .int .u64 z2, .int .u64 z3], .bool true] (.tuple #[.agg #[.int .u64 v0, .int .u64 v1, .int .u64 v2, .int .u64 v3], .int .i64 0]))
    (hW : Says 27 #[.agg #[.int .u64 s0, .int .u64 s1, .int .u64 s2, .int .u64 s3], .agg #[.int .u64 z0, .int .u64 z1, .int .u64 z2, .int .u64 z3], .agg #[.int .u64 x0, .int .u64 x1, .int .u64 x2, .int .u64 x3], .agg #[.int .u64 y0, .int .u64 y1, .int .u64 y2, .int .u64 y3]] (.bool true)) (hA : Says 15 #[.agg #[.int .u64 s0, .int .u64 s1, .int .u64 s2, .int .u64 s3], .agg #[.int .u64 1, .int .u64 0, .int .u64 0, .int .u64 0]] (.tuple #[.agg #[.int .u64 v0, .int .u64 v1, .int .u64 v2, .int .u64 v3], .bool true])) (hW2 : Says 27 #[.agg #[.int .u64 v0, .int .u64 v1, .int .u64 v2, .int .u64 v3], .agg #[.int .u64 z0, .int .u64 z1, .int .u64 z2, .int .u64 z3], .agg #[.int .u64 x0, .int .u64 x1, .int .u64 x2, .int .u64 x3], .agg #[.int .u64 y0, .int .u64 y1, .int .u64 y2, .int .u64 y3]] (.bool false)) (hW3 : Says 27 #[.agg #[.int .u64 x0, .int .u64 x1, .int .u64 x2, .int .u64 x3], .agg #[.int .u64 y0, .int .u64 y1, .int .u64 y2, .int .u64 y3], .agg #[.int .u64 s0, .int .u64 s1, .int .u64 s2, .int .u64 s3], .agg #[.int .u64 z0, .int .u64 z1, .int .u64 z2, .int .u64 z3]] (.bool false)) (hW4 : Says 27 #[.agg #[.int .u64 x0, .int .u64 x1, .int .u64 x2, .int .u64 x3], .agg #[.int .u64 y0, .int .u64 y1, .int .u64 y2, .int .u64 y3], .agg #[.int .u64 v0, .int .u64 v1, .int .u64 v2, .int .u64 v3], .agg #[.int .u64 z0, .int .u64 z1, .int .u64 z2, .int .u64 z3]] (.bool true)) (hne : eq4 v0 v1 v2 v3 s0 s1 s2 s3 = false) (w : World) :
    Calls Try.prog 8 #[.agg #[.int .u64 x0, .int .u64 x1, .int .u64 x2, .int .u64 x3], .agg #[.int .u64 y0, .int .u64 y1, .int .u64 y2, .int .u64 y3], .agg #[.int .u64 z0, .int .u64 z1, .int .u64 z2, .int .u64 z3]] w fun e w' => e = .returned (.bool true) ∧ Below w.heap.size w w' := by
  have hpad := pads
  have heq := eq_num
  have hes := eq4_self
  have hsm := says_small 1
  go_enter Try.func8, Try.ntmps8
  go_upto_region 7 with (first
    | (go_at_call 25; with_reducible refine (hM.at _).mono ?_; rintro e w' ⟨rfl, hb⟩; obtain ⟨m1, g1, d1, hm1, rfl⟩ := pad_of hb; clear hb; (try simp [pad_size] at hm1); have st1_w := sz3 (n := w.heap.size) (m := m1) (by omega))
    | (go_at_call 25; with_reducible refine (hN.at _).mono ?_; rintro e w' ⟨rfl, hb⟩; obtain ⟨m2, g2, d2, hm2, rfl⟩ := pad_of hb; clear hb; (try simp [pad_size] at hm2); have st2_w := sz3 (n := w.heap.size) (m := m2) (by omega); have st2_1 := sz1 (n := m1) (m := m2) (by omega))
    | (go_at_call 27; with_reducible refine (hW.at _).mono ?_; rintro e w' ⟨rfl, hb⟩; obtain ⟨m3, g3, d3, hm3, rfl⟩ := pad_of hb; clear hb; (try simp [pad_size] at hm3); have st3_w := sz3 (n := w.heap.size) (m := m3) (by omega); have st3_1 := sz1 (n := m1) (m := m3) (by omega); have st3_2 := sz1 (n := m2) (m := m3) (by omega)))
  go_region_with (first
    | (go_at_call 28; with_reducible refine (hsm.at _).mono ?_; rintro e w' ⟨rfl, hb⟩; obtain ⟨m4, g4, d4, hm4, rfl⟩ := pad_of hb; clear hb; (try simp [pad_size] at hm4); have st4_w := sz3 (n := w.heap.size) (m := m4) (by omega); have st4_1 := sz1 (n := m1) (m := m4) (by omega); have st4_2 := sz1 (n := m2) (m := m4) (by omega); try (have sa4 := sz1 (n := m3) (m := m4) (by omega)))
    | (go_at_call 15; with_reducible refine (hA.at _).mono ?_; rintro e w' ⟨rfl, hb⟩; obtain ⟨m5, g5, d5, hm5, rfl⟩ := pad_of hb; clear hb; (try simp [pad_size] at hm5); have st5_w := sz3 (n := w.heap.size) (m := m5) (by omega); have st5_1 := sz1 (n := m1) (m := m5) (by omega); have st5_2 := sz1 (n := m2) (m := m5) (by omega); try (have sa5 := sz1 (n := m3) (m := m5) (by omega)); try (have sb5 := sz1 (n := m4) (m := m5) (by omega))))
  all_goals
    go_wp2_with (first
      | (go_at_call 27; with_reducible refine (hW2.at _).mono ?_; rintro e w' ⟨rfl, hb⟩; obtain ⟨m6, g6, d6, hm6, rfl⟩ := pad_of hb; clear hb; (try simp [pad_size] at hm6); have st6_w := sz3 (n := w.heap.size) (m := m6) (by omega); have st6_1 := sz1 (n := m1) (m := m6) (by omega); have st6_2 := sz1 (n := m2) (m := m6) (by omega); try (have sa6 := sz1 (n := m3) (m := m6) (by omega)); try (have sb6 := sz1 (n := m4) (m := m6) (by omega)); try (have sc6 := sz1 (n := m5) (m := m6) (by omega)))
      | (go_at_call 18; with_reducible refine (says_halves.at _).mono ?_; rintro e w' ⟨rfl, hb⟩; obtain ⟨m7, g7, d7, hm7, rfl⟩ := pad_of (bt (bp (Below.refl _ _) (by first | omega | (simp [pad_size]; omega)) _ _) hb); clear hb; (try simp [pad_size] at hm7); have st7_w := sz3 (n := w.heap.size) (m := m7) (by omega); have st7_1 := sz1 (n := m1) (m := m7) (by omega); have st7_2 := sz1 (n := m2) (m := m7) (by omega); try (have sa7 := sz1 (n := m3) (m := m7) (by omega)); try (have sb7 := sz1 (n := m4) (m := m7) (by omega)); try (have sc7 := sz1 (n := m5) (m := m7) (by omega)))
      | (go_at_call 27; with_reducible refine (hW4.at _).mono ?_; rintro e w' ⟨rfl, hb⟩; obtain ⟨m8, g8, d8, hm8, rfl⟩ := pad_of (bt (bp (Below.refl _ _) (by first | omega | (simp [pad_size]; omega)) _ _) hb); clear hb; (try simp [pad_size] at hm8); have st8_w := sz3 (n := w.heap.size) (m := m8) (by omega); have st8_1 := sz1 (n := m1) (m := m8) (by omega); have st8_2 := sz1 (n := m2) (m := m8) (by omega); try (have sa8 := sz1 (n := m3) (m := m8) (by omega)); try (have sb8 := sz1 (n := m4) (m := m8) (by omega)); try (have sc8 := sz1 (n := m5) (m := m8) (by omega)))
      | (go_at_call 27; with_reducible refine (hW3.at _).mono ?_; rintro e w' ⟨rfl, hb⟩; obtain ⟨m9, g9, d9, hm9, rfl⟩ := pad_of (bt (bp (Below.refl _ _) (by first | omega | (simp [pad_size]; omega)) _ _) hb); clear hb; (try simp [pad_size] at hm9); have st9_w := sz3 (n := w.heap.size) (m := m9) (by omega); have st9_1 := sz1 (n := m1) (m := m9) (by omega); have st9_2 := sz1 (n := m2) (m := m9) (by omega); try (have sa9 := sz1 (n := m3) (m := m9) (by omega)); try (have sb9 := sz1 (n := m4) (m := m9) (by omega)); try (have sc9 := sz1 (n := m5) (m := m9) (by omega))))
    all_goals go_ret
    all_goals exact ⟨rfl, by (repeat (first | (with_reducible exact Below.refl _ _) | (with_reducible assumption) | (with_reducible apply bd) | (with_reducible apply ba) | (with_reducible refine bp ?_ (by first | omega | (simp [pad_size]; done) | (simp [pad_size]; omega)) _ _) | (with_reducible refine bs ?_ (by first | omega | (simp [pad_size]; done) | (simp [pad_size]; omega)) _) | (with_reducible refine bt ?_ (by assumption))))⟩

set_option maxRecDepth 100000 in
set_option maxHeartbeats 8000000 in
theorem numFloors_d (x0 x1 x2 x3 y0 y1 y2 y3 z0 z1 z2 z3 s0 s1 s2 s3 v0 v1 v2 v3 : Int)
    (hM : Says 25 #[.agg #[.int .u64 x0, .int .u64 x1, .int .u64 x2, .int .u64 x3], .agg #[.int .u64 y0, .int .u64 y1, .int .u64 y2, .int .u64 y3], .agg #[.int .u64 z0, .int .u64 z1, .int .u64 z2, .int .u64 z3], .bool false] (.tuple #[.agg #[.int .u64 s0, .int .u64 s1, .int .u64 s2, .int .u64 s3], .int .i64 0])) (hN : Says 25 #[.agg #[.int .u64 x0, .int .u64 x1, .int .u64 x2, .int .u64 x3], .agg #[.int .u64 y0, .int .u64 y1, .int .u64 y2, .int .u64 y3], .agg #[.int .u64 z0, .int .u64 z1, .int .u64 z2, .int .u64 z3], .bool true] (.tuple #[.agg #[.int .u64 0, .int .u64 0, .int .u64 0, .int .u64 0], .int .i64 2]))
    (hW : Says 27 #[.agg #[.int .u64 s0, .int .u64 s1, .int .u64 s2, .int .u64 s3], .agg #[.int .u64 z0, .int .u64 z1, .int .u64 z2, .int .u64 z3], .agg #[.int .u64 x0, .int .u64 x1, .int .u64 x2, .int .u64 x3], .agg #[.int .u64 y0, .int .u64 y1, .int .u64 y2, .int .u64 y3]] (.bool true)) (hA : Says 15 #[.agg #[.int .u64 s0, .int .u64 s1, .int .u64 s2, .int .u64 s3], .agg #[.int .u64 1, .int .u64 0, .int .u64 0, .int .u64 0]] (.tuple #[.agg #[.int .u64 0, .int .u64 0, .int .u64 0, .int .u64 0], .bool false])) (hW3 : Says 27 #[.agg #[.int .u64 x0, .int .u64 x1, .int .u64 x2, .int .u64 x3], .agg #[.int .u64 y0, .int .u64 y1, .int .u64 y2, .int .u64 y3], .agg #[.int .u64 s0, .int .u64 s1, .int .u64 s2, .int .u64 s3], .agg #[.int .u64 z0, .int .u64 z1, .int .u64 z2, .int .u64 z3]] (.bool false)) (w : World) :
    Calls Try.prog 8 #[.agg #[.int .u64 x0, .int .u64 x1, .int .u64 x2, .int .u64 x3], .agg #[.int .u64 y0, .int .u64 y1, .int .u64 y2, .int .u64 y3], .agg #[.int .u64 z0, .int .u64 z1, .int .u64 z2, .int .u64 z3]] w fun e w' => e = .returned (.bool true) ∧ Below w.heap.size w w' := by
  have hpad := pads
  have heq := eq_num
  have hes := eq4_self
  have hsm := says_small 1
  go_enter Try.func8, Try.ntmps8
  go_upto_region 7 with (first
    | (go_at_call 25; with_reducible refine (hM.at _).mono ?_; rintro e w' ⟨rfl, hb⟩; obtain ⟨m1, g1, d1, hm1, rfl⟩ := pad_of hb; clear hb; (try simp [pad_size] at hm1); have st1_w := sz3 (n := w.heap.size) (m := m1) (by omega))
    | (go_at_call 25; with_reducible refine (hN.at _).mono ?_; rintro e w' ⟨rfl, hb⟩; obtain ⟨m2, g2, d2, hm2, rfl⟩ := pad_of hb; clear hb; (try simp [pad_size] at hm2); have st2_w := sz3 (n := w.heap.size) (m := m2) (by omega); have st2_1 := sz1 (n := m1) (m := m2) (by omega))
    | (go_at_call 27; with_reducible refine (hW.at _).mono ?_; rintro e w' ⟨rfl, hb⟩; obtain ⟨m3, g3, d3, hm3, rfl⟩ := pad_of hb; clear hb; (try simp [pad_size] at hm3); have st3_w := sz3 (n := w.heap.size) (m := m3) (by omega); have st3_1 := sz1 (n := m1) (m := m3) (by omega); have st3_2 := sz1 (n := m2) (m := m3) (by omega)))
  go_region_with (first
    | (go_at_call 28; with_reducible refine (hsm.at _).mono ?_; rintro e w' ⟨rfl, hb⟩; obtain ⟨m4, g4, d4, hm4, rfl⟩ := pad_of hb; clear hb; (try simp [pad_size] at hm4); have st4_w := sz3 (n := w.heap.size) (m := m4) (by omega); have st4_1 := sz1 (n := m1) (m := m4) (by omega); have st4_2 := sz1 (n := m2) (m := m4) (by omega); try (have sa4 := sz1 (n := m3) (m := m4) (by omega)))
    | (go_at_call 15; with_reducible refine (hA.at _).mono ?_; rintro e w' ⟨rfl, hb⟩; obtain ⟨m5, g5, d5, hm5, rfl⟩ := pad_of hb; clear hb; (try simp [pad_size] at hm5); have st5_w := sz3 (n := w.heap.size) (m := m5) (by omega); have st5_1 := sz1 (n := m1) (m := m5) (by omega); have st5_2 := sz1 (n := m2) (m := m5) (by omega); try (have sa5 := sz1 (n := m3) (m := m5) (by omega)); try (have sb5 := sz1 (n := m4) (m := m5) (by omega))))
  all_goals
    go_wp2_with (first
      | (go_at_call 18; with_reducible refine (says_halves.at _).mono ?_; rintro e w' ⟨rfl, hb⟩; obtain ⟨m7, g7, d7, hm7, rfl⟩ := pad_of hb; clear hb; (try simp [pad_size] at hm7); have st7_w := sz3 (n := w.heap.size) (m := m7) (by omega); have st7_1 := sz1 (n := m1) (m := m7) (by omega); have st7_2 := sz1 (n := m2) (m := m7) (by omega); try (have sa7 := sz1 (n := m3) (m := m7) (by omega)); try (have sb7 := sz1 (n := m4) (m := m7) (by omega)); try (have sc7 := sz1 (n := m5) (m := m7) (by omega)))
      | (go_at_call 27; with_reducible refine (hW3.at _).mono ?_; rintro e w' ⟨rfl, hb⟩; obtain ⟨m8, g8, d8, hm8, rfl⟩ := pad_of (bt (bp (Below.refl _ _) (by first | omega | (simp [pad_size]; omega)) _ _) hb); clear hb; (try simp [pad_size] at hm8); have st8_w := sz3 (n := w.heap.size) (m := m8) (by omega); have st8_1 := sz1 (n := m1) (m := m8) (by omega); have st8_2 := sz1 (n := m2) (m := m8) (by omega); try (have sa8 := sz1 (n := m3) (m := m8) (by omega)); try (have sb8 := sz1 (n := m4) (m := m8) (by omega)); try (have sc8 := sz1 (n := m5) (m := m8) (by omega))))
    all_goals go_ret
    all_goals exact ⟨rfl, by (repeat (first | (with_reducible exact Below.refl _ _) | (with_reducible assumption) | (with_reducible apply bd) | (with_reducible apply ba) | (with_reducible refine bp ?_ (by first | omega | (simp [pad_size]; done) | (simp [pad_size]; omega)) _ _) | (with_reducible refine bs ?_ (by first | omega | (simp [pad_size]; done) | (simp [pad_size]; omega)) _) | (with_reducible refine bt ?_ (by assumption))))⟩

theorem numFloors_any (x0 x1 x2 x3 y0 y1 y2 y3 z0 z1 z2 z3 : Int) (hx : Lim x0 x1 x2 x3) (hy : Lim y0 y1 y2 y3) (hz : Lim z0 z1 z2 z3) (w : World) :
    Calls Try.prog 8 #[.agg #[.int .u64 x0, .int .u64 x1, .int .u64 x2, .int .u64 x3], .agg #[.int .u64 y0, .int .u64 y1, .int .u64 y2, .int .u64 y3], .agg #[.int .u64 z0, .int .u64 z1, .int .u64 z2, .int .u64 z3]] w fun e w' => e = .returned (.bool true) ∧ Below w.heap.size w w' := by
  have c0 := val_lo hz
  have p0 := Int.mul_nonneg (val_lo hx) (val_lo hy)
  have l1 : Lim 1 0 0 0 := by unfold Lim; omega
  have v1 : val 1 0 0 0 = 1 := val_of 1
  by_cases hc : val z0 z1 z2 z3 = 0
  · exact numFloors_no _ _ _ _ _ _ _ _ _ _ _ _ 1 (.inl rfl) (says_md_zero false hx hy hz hc) (says_md_zero true hx hy hz hc) w
  · have hq : val x0 x1 x2 x3 * val y0 y1 y2 y3 = (val x0 x1 x2 x3 * val y0 y1 y2 y3) / val z0 z1 z2 z3 * val z0 z1 z2 z3 + (val x0 x1 x2 x3 * val y0 y1 y2 y3) % val z0 z1 z2 z3 := by
      have := Int.emod_add_mul_ediv (val x0 x1 x2 x3 * val y0 y1 y2 y3) (val z0 z1 z2 z3)
      rw [Int.mul_comm (_ / _)]; omega
    have hr : 0 ≤ (val x0 x1 x2 x3 * val y0 y1 y2 y3) % val z0 z1 z2 z3 ∧ (val x0 x1 x2 x3 * val y0 y1 y2 y3) % val z0 z1 z2 z3 < val z0 z1 z2 z3 := ⟨Int.emod_nonneg _ hc, Int.emod_lt_of_pos _ (by omega)⟩
    have q0 : 0 ≤ (val x0 x1 x2 x3 * val y0 y1 y2 y3) / val z0 z1 z2 z3 := Int.ediv_nonneg p0 c0
    generalize (val x0 x1 x2 x3 * val y0 y1 y2 y3) / val z0 z1 z2 z3 = q at *
    generalize (val x0 x1 x2 x3 * val y0 y1 y2 y3) % val z0 z1 z2 z3 = r at *
    have f1 : upI false q r = q := by unfold upI; rw [if_neg (by simp)]
    have f2 : q ≤ upI true q r := by unfold upI; split <;> omega
    by_cases ho : 115792089237316195423570985008687907853269984665640564039457584007913129639936 ≤ q
    · exact numFloors_no _ _ _ _ _ _ _ _ _ _ _ _ 2 (.inr rfl) (says_md_over false hx hy hz hq hr (by omega)) (says_md_over true hx hy hz hq hr (by omega)) w
    · obtain ⟨s0, s1, s2, s3, hs, es⟩ := limbs_of q0 (by omega)
      have hM := says_md false hx hy hz hs hq hr (by rw [es, f1])
      have hW := says_wide (b := true) hs hz hx hy (by rw [es, hq]; exact decide_eq_true (by omega))
      by_cases hm : q + 1 < 115792089237316195423570985008687907853269984665640564039457584007913129639936
      · obtain ⟨v0, v1', v2, v3, hv, ev⟩ := limbs_of (n := q + 1) (by omega) hm
        have hA := says_addR hs l1 hv (by rw [es, v1, ev])
        have hW2 := says_wide (b := false) hv hz hx hy (by rw [ev, hq, Int.add_mul]; exact decide_eq_false (by omega))
        by_cases h0 : r = 0
        · have f3 : upI true q r = q := by unfold upI; rw [if_neg (by simp [h0])]
          exact numFloors_a _ _ _ _ _ _ _ _ _ _ _ _ s0 s1 s2 s3 v0 v1' v2 v3 hM (says_md true hx hy hz hs hq hr (by rw [es, f3])) hW hA hW2 (says_wide (b := true) hx hy hs hz (by rw [es, hq]; exact decide_eq_true (by omega))) w
        · have f3 : upI true q r = q + 1 := by unfold upI; rw [if_pos ⟨rfl, h0⟩]
          refine numFloors_c _ _ _ _ _ _ _ _ _ _ _ _ s0 s1 s2 s3 v0 v1' v2 v3 hM (says_md true hx hy hz hv hq hr (by rw [ev, f3])) hW hA hW2 (says_wide (b := false) hx hy hs hz (by rw [es, hq]; exact decide_eq_false (by omega))) (says_wide (b := true) hx hy hv hz (by rw [ev, hq, Int.add_mul]; exact decide_eq_true (by omega))) ?_ w
          rw [eq4_val hv hs]; exact decide_eq_false (by omega)
      · have hA := says_addR_over hs l1 (by rw [es, v1]; omega)
        by_cases h0 : r = 0
        · have f3 : upI true q r = q := by unfold upI; rw [if_neg (by simp [h0])]
          exact numFloors_b _ _ _ _ _ _ _ _ _ _ _ _ s0 s1 s2 s3 0 0 0 0 hM (says_md true hx hy hz hs hq hr (by rw [es, f3])) hW hA (says_wide (b := true) hx hy hs hz (by rw [es, hq]; exact decide_eq_true (by omega))) w
        · have f3 : upI true q r = q + 1 := by unfold upI; rw [if_pos ⟨rfl, h0⟩]
          exact numFloors_d _ _ _ _ _ _ _ _ _ _ _ _ s0 s1 s2 s3 0 0 0 0 hM (says_md_over true hx hy hz hq hr (by omega)) hW hA (says_wide (b := false) hx hy hs hz (by rw [es, hq]; exact decide_eq_false (by omega))) w

theorem numFloors_own : ownKnob Try.prog.godebug = none := by kernel_rfl
theorem numFloors_laid : laidOutB Try.prog = true := by kernel_rfl

set_option maxRecDepth 100000 in
theorem numFloors_lifted (os : Os) (started : os.Started) (H : Type) (enc : TypeId × Value → H) :
    ReturnsInHanded {} Try.checked os 8 .any (Rows.numFloorsSpec.pre6 enc Try.prog Try.f8 Rows.numFloorsRow.domain false) (Rows.numFloorsSpec.post enc Try.prog Try.f8 false true false false) := by
  refine returnsInHanded_of_change (C := Try.checked) numFloors_own started (by kernel_rfl) Try.func8
    (ChangeSpec.witness6 (enc := enc) (C := Try.checked) false ⟨#[], #[.agg #[.int .u64 0, .int .u64 0, .int .u64 0, .int .u64 0], .agg #[.int .u64 0, .int .u64 0, .int .u64 0, .int .u64 0], .agg #[.int .u64 0, .int .u64 0, .int .u64 0, .int .u64 0]], []⟩ 8 (by kernel_rfl) (by kernel_rfl) (by kernel_rfl) (by kernel_rfl)) ?_
  intro W base args ds gs before hval0 hW hcnd _
  have hval : ∀ (j : Nat) t v, Try.f8.params[j]? = some t → args[j]? = some v → Value.okWide Try.prog W .any base t v := hval0
  have hW' := hW
  obtain ⟨p, q, hA0, hV, rfl, hfz, hnd⟩ := hW
  have hA : DataW.TrodAll enc Try.prog W 0 (fun _ => true) true Try.f8.params.toList args.toList ds p := hA0
  rw [Try.params8] at hA hval
  obtain ⟨v0, vs0, d0, ds0, p0, q0, hargs0, rfl, rfl, h0, r0⟩ := trodAll_cons hA
  obtain ⟨v1, vs1, d1, ds1, p1, q1, hargs1, rfl, rfl, h1, r1⟩ := trodAll_cons r0
  obtain ⟨v2, vs2, d2, ds2, p2, q2, hargs2, rfl, rfl, h2, r2⟩ := trodAll_cons r1
  obtain ⟨rfl, rfl, rfl⟩ := trodAll_nil r2
  obtain rfl : args = #[v0, v1, v2] := by cases args; simp_all
  obtain ⟨rfl, rfl⟩ := trodVars_none hV
  have k0 := h0
  have lt0 : ∀ x ∈ p0, x.block < W.heap.size := by obtain ⟨m, hm⟩ := k0; exact DataW.trod_lt m _ _ _ hm
  have k1 := h1
  have lt1 : ∀ x ∈ p1, x.block < W.heap.size := by obtain ⟨m, hm⟩ := k1; exact DataW.trod_lt m _ _ _ hm
  have k2 := h2
  have lt2 : ∀ x ∈ p2, x.block < W.heap.size := by obtain ⟨m, hm⟩ := k2; exact DataW.trod_lt m _ _ _ hm
  obtain ⟨x0, x1, x2, x3, rfl, hx⟩ := num_in (hval 0 24 v0 rfl rfl) h0
  obtain ⟨y0, y1, y2, y3, rfl, hy⟩ := num_in (hval 1 24 v1 rfl rfl) h1
  obtain ⟨z0, z1, z2, z3, rfl, hz⟩ := num_in (hval 2 24 v2 rfl rfl) h2
  clear hA0 hval0
  have walk : Calls Try.prog 8 _ W fun e w' => e = .returned (.bool true) ∧ Below W.heap.size W w' := numFloors_any x0 x1 x2 x3 y0 y1 y2 y3 z0 z1 z2 z3 hx hy hz W
  refine walk.mono fun e W' ⟨he, bel⟩ => ?_
  subst he
  exact ⟨_, rfl, _, _, _, [], _, [], hW', trodAll_mk1 (shut_bool Try.underlying4 _), trodAll_cons_mk (Below.trod numFloors_laid (by kernel_rfl) (of_decide_eq_true (by kernel_rfl)) k0 bel lt0) (trodAll_cons_mk (Below.trod numFloors_laid (by kernel_rfl) (of_decide_eq_true (by kernel_rfl)) k1 bel lt1) (trodAll_cons_mk (Below.trod numFloors_laid (by kernel_rfl) (of_decide_eq_true (by kernel_rfl)) k2 bel lt2) (trodAll_mk0))), rfl, bel.frame _, fun h => by cases h⟩

theorem numFloors_holds : Rows.NumFloorsSaid :=
  OpenClaim.holds_of_wide 8 Try.f8 rfl rfl rfl rfl rfl rfl rfl ⟨rfl, rfl, rfl, rfl, rfl⟩ rfl rfl rfl rfl rfl (by kernel_rfl) Try.func8 (by kernel_rfl)
    (of_decide_eq_true (by kernel_rfl)) (by unfold Func.isWrapper; first | (rw [if_pos (by decide +kernel)]; kernel_rfl) | (rw [if_neg (by decide +kernel)]; exact ⟨rfl, rfl⟩))
    (fun os started H enc _ => numFloors_lifted os started H enc)
#print axioms numFloors_holds
end Go.Proofs.Ytkeimndlcagbbaa
