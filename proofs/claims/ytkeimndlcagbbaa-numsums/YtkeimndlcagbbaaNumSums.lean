/- For every two numbers jointurelaw01.NumSums returns true and writes nothing that was there: sums, differences, the less one and what is left are the document's. No condition. -/
import Derived.Test.YtkeimndlcagbbaaF2
set_option linter.unusedSimpArgs false
set_option linter.unusedVariables false
namespace Go.Proofs.Ytkeimndlcagbbaa
open Go.ChangeShapes Go.WideShapes Go.ChangeAt Go.RowKit

set_option maxRecDepth 100000 in
set_option maxHeartbeats 8000000 in
theorem numSums_lt (x0 x1 x2 x3 y0 y1 y2 y3 s0 s1 s2 s3 c : Int) (ok : Bool) (hc : (c = 0 ∧ ok = true) ∨ (c = 2 ∧ ok = false))
    (hA : Says 14 #[.agg #[.int .u64 x0, .int .u64 x1, .int .u64 x2, .int .u64 x3], .agg #[.int .u64 y0, .int .u64 y1, .int .u64 y2, .int .u64 y3]] (.tuple #[.agg #[.int .u64 s0, .int .u64 s1, .int .u64 s2, .int .u64 s3], .int .i64 c])) (hR : Says 15 #[.agg #[.int .u64 x0, .int .u64 x1, .int .u64 x2, .int .u64 x3], .agg #[.int .u64 y0, .int .u64 y1, .int .u64 y2, .int .u64 y3]] (.tuple #[.agg #[.int .u64 s0, .int .u64 s1, .int .u64 s2, .int .u64 s3], .bool ok]))
    (hS : Says 16 #[.agg #[.int .u64 x0, .int .u64 x1, .int .u64 x2, .int .u64 x3], .agg #[.int .u64 y0, .int .u64 y1, .int .u64 y2, .int .u64 y3]] (.tuple #[.agg #[.int .u64 0, .int .u64 0, .int .u64 0, .int .u64 0], .int .i64 3])) (hC : Says 17 #[.agg #[.int .u64 x0, .int .u64 x1, .int .u64 x2, .int .u64 x3], .agg #[.int .u64 y0, .int .u64 y1, .int .u64 y2, .int .u64 y3]] (.int .i64 (-1)))
    (hT : Says 19 #[.agg #[.int .u64 x0, .int .u64 x1, .int .u64 x2, .int .u64 x3], .agg #[.int .u64 y0, .int .u64 y1, .int .u64 y2, .int .u64 y3]] (.agg #[.int .u64 0, .int .u64 0, .int .u64 0, .int .u64 0])) (hL : Says 20 #[.agg #[.int .u64 x0, .int .u64 x1, .int .u64 x2, .int .u64 x3], .agg #[.int .u64 y0, .int .u64 y1, .int .u64 y2, .int .u64 y3]] (.agg #[.int .u64 x0, .int .u64 x1, .int .u64 x2, .int .u64 x3])) (w : World) :
    Calls Try.prog 3 #[.agg #[.int .u64 x0, .int .u64 x1, .int .u64 x2, .int .u64 x3], .agg #[.int .u64 y0, .int .u64 y1, .int .u64 y2, .int .u64 y3]] w fun e w' => e = .returned (.bool true) ∧ Below w.heap.size w w' := by
  have hpad := pads
  have heq := eq_num
  have hes := eq4_self
  rcases hc with ⟨rfl, rfl⟩ | ⟨rfl, rfl⟩
  all_goals
    go_enter Try.func3, Try.ntmps3
    go_upto_region 7 with (first
      | (go_at_call 14; with_reducible refine (hA.at _).mono ?_; rintro e w' ⟨rfl, hb⟩; obtain ⟨m1, g1, d1, hm1, rfl⟩ := pad_of hb; clear hb; (try simp [pad_size] at hm1); have st1_w := sz2 (n := w.heap.size) (m := m1) (by omega))
      | (go_at_call 15; with_reducible refine (hR.at _).mono ?_; rintro e w' ⟨rfl, hb⟩; obtain ⟨m2, g2, d2, hm2, rfl⟩ := pad_of hb; clear hb; (try simp [pad_size] at hm2); have st2_w := sz2 (n := w.heap.size) (m := m2) (by omega); have st2_1 := sz1 (n := m1) (m := m2) (by omega))
      | (go_at_call 16; with_reducible refine (hS.at _).mono ?_; rintro e w' ⟨rfl, hb⟩; obtain ⟨m3, g3, d3, hm3, rfl⟩ := pad_of hb; clear hb; (try simp [pad_size] at hm3); have st3_w := sz2 (n := w.heap.size) (m := m3) (by omega); have st3_1 := sz1 (n := m1) (m := m3) (by omega); have st3_2 := sz1 (n := m2) (m := m3) (by omega))
      | (go_at_call 17; with_reducible refine (hC.at _).mono ?_; rintro e w' ⟨rfl, hb⟩; obtain ⟨m4, g4, d4, hm4, rfl⟩ := pad_of hb; clear hb; (try simp [pad_size] at hm4); have st4_w := sz2 (n := w.heap.size) (m := m4) (by omega); have st4_1 := sz1 (n := m1) (m := m4) (by omega); have st4_2 := sz1 (n := m2) (m := m4) (by omega); have st4_3 := sz1 (n := m3) (m := m4) (by omega)))
    go_region_held2 (fun W => W.cell? ⟨w.heap.size, 0, none⟩ = some (.int .u64 x0) ∧ W.cell? ⟨w.heap.size, 1, none⟩ = some (.int .u64 x1) ∧ W.cell? ⟨w.heap.size, 2, none⟩ = some (.int .u64 x2) ∧ W.cell? ⟨w.heap.size, 3, none⟩ = some (.int .u64 x3) ∧ W.cell? ⟨w.heap.size + 1, 0, none⟩ = some (.int .u64 y0) ∧ W.cell? ⟨w.heap.size + 1, 1, none⟩ = some (.int .u64 y1) ∧ W.cell? ⟨w.heap.size + 1, 2, none⟩ = some (.int .u64 y2) ∧ W.cell? ⟨w.heap.size + 1, 3, none⟩ = some (.int .u64 y3) ∧ W.cell? ⟨m3, 0, none⟩ = some (.int .u64 0) ∧ W.cell? ⟨m3, 1, none⟩ = some (.int .u64 0) ∧ W.cell? ⟨m3, 2, none⟩ = some (.int .u64 0) ∧ W.cell? ⟨m3, 3, none⟩ = some (.int .u64 0)) (go_simp) (first
      | (go_at_call 18; with_reducible refine (says_halves.at _).mono ?_; rintro e w' ⟨rfl, hb⟩; obtain ⟨m5, g5, d5, hm5, rfl⟩ := pad_of (bt (bp (Below.refl _ _) (by first | omega | (simp [pad_size]; omega)) _ _) hb); clear hb; (try simp [pad_size] at hm5); have st5_w := sz2 (n := w.heap.size) (m := m5) (by omega); have st5_1 := sz1 (n := m1) (m := m5) (by omega); have st5_2 := sz1 (n := m2) (m := m5) (by omega); have st5_3 := sz1 (n := m3) (m := m5) (by omega); clear st4_w hm4)
      | (go_at_call 19; with_reducible refine (hT.at _).mono ?_; rintro e w' ⟨rfl, hb⟩; obtain ⟨m6, g6, d6, hm6, rfl⟩ := pad_of (bt (bp (Below.refl _ _) (by first | omega | (simp [pad_size]; omega)) _ _) hb); clear hb; (try simp [pad_size] at hm6); have st6_w := sz2 (n := w.heap.size) (m := m6) (by omega); have st6_1 := sz1 (n := m1) (m := m6) (by omega); have st6_2 := sz1 (n := m2) (m := m6) (by omega); have st6_3 := sz1 (n := m3) (m := m6) (by omega); clear st5_w hm5)
      | (go_at_call 20; with_reducible refine (hL.at _).mono ?_; rintro e w' ⟨rfl, hb⟩; obtain ⟨m7, g7, d7, hm7, rfl⟩ := pad_of (bt (bp (Below.refl _ _) (by first | omega | (simp [pad_size]; omega)) _ _) hb); clear hb; (try simp [pad_size] at hm7); have st7_w := sz2 (n := w.heap.size) (m := m7) (by omega); have st7_1 := sz1 (n := m1) (m := m7) (by omega); have st7_2 := sz1 (n := m2) (m := m7) (by omega); have st7_3 := sz1 (n := m3) (m := m7) (by omega); clear st6_w hm6))
    all_goals go_wp2
    all_goals go_ret
    all_goals exact ⟨rfl, by (repeat (first | (with_reducible exact Below.refl _ _) | (with_reducible assumption) | (with_reducible apply bd) | (with_reducible apply ba) | (with_reducible refine bp ?_ (by first | omega | (simp [pad_size]; done) | (simp [pad_size]; omega)) _ _) | (with_reducible refine bs ?_ (by first | omega | (simp [pad_size]; done) | (simp [pad_size]; omega)) _) | (with_reducible refine bt ?_ (by assumption))))⟩

set_option maxRecDepth 100000 in
set_option maxHeartbeats 8000000 in
theorem numSums_ge (x0 x1 x2 x3 y0 y1 y2 y3 s0 s1 s2 s3 z0 z1 z2 z3 c cc : Int) (ok : Bool) (hc : (c = 0 ∧ ok = true) ∨ (c = 2 ∧ ok = false)) (hcc : 0 ≤ cc)
    (hA : Says 14 #[.agg #[.int .u64 x0, .int .u64 x1, .int .u64 x2, .int .u64 x3], .agg #[.int .u64 y0, .int .u64 y1, .int .u64 y2, .int .u64 y3]] (.tuple #[.agg #[.int .u64 s0, .int .u64 s1, .int .u64 s2, .int .u64 s3], .int .i64 c])) (hR : Says 15 #[.agg #[.int .u64 x0, .int .u64 x1, .int .u64 x2, .int .u64 x3], .agg #[.int .u64 y0, .int .u64 y1, .int .u64 y2, .int .u64 y3]] (.tuple #[.agg #[.int .u64 s0, .int .u64 s1, .int .u64 s2, .int .u64 s3], .bool ok]))
    (hS : Says 16 #[.agg #[.int .u64 x0, .int .u64 x1, .int .u64 x2, .int .u64 x3], .agg #[.int .u64 y0, .int .u64 y1, .int .u64 y2, .int .u64 y3]] (.tuple #[.agg #[.int .u64 z0, .int .u64 z1, .int .u64 z2, .int .u64 z3], .int .i64 0])) (hC : Says 17 #[.agg #[.int .u64 x0, .int .u64 x1, .int .u64 x2, .int .u64 x3], .agg #[.int .u64 y0, .int .u64 y1, .int .u64 y2, .int .u64 y3]] (.int .i64 cc)) (hD : Says 21 #[.agg #[.int .u64 x0, .int .u64 x1, .int .u64 x2, .int .u64 x3], .agg #[.int .u64 y0, .int .u64 y1, .int .u64 y2, .int .u64 y3]] (.agg #[.int .u64 z0, .int .u64 z1, .int .u64 z2, .int .u64 z3]))
    (hT : Says 19 #[.agg #[.int .u64 x0, .int .u64 x1, .int .u64 x2, .int .u64 x3], .agg #[.int .u64 y0, .int .u64 y1, .int .u64 y2, .int .u64 y3]] (.agg #[.int .u64 z0, .int .u64 z1, .int .u64 z2, .int .u64 z3])) (hL : Says 20 #[.agg #[.int .u64 x0, .int .u64 x1, .int .u64 x2, .int .u64 x3], .agg #[.int .u64 y0, .int .u64 y1, .int .u64 y2, .int .u64 y3]] (.agg #[.int .u64 y0, .int .u64 y1, .int .u64 y2, .int .u64 y3])) (w : World) :
    Calls Try.prog 3 #[.agg #[.int .u64 x0, .int .u64 x1, .int .u64 x2, .int .u64 x3], .agg #[.int .u64 y0, .int .u64 y1, .int .u64 y2, .int .u64 y3]] w fun e w' => e = .returned (.bool true) ∧ Below w.heap.size w w' := by
  have hpad := pads
  have heq := eq_num
  have hes := eq4_self
  have hcd : decide (cc < 0) = false := by simpa using hcc
  rcases hc with ⟨rfl, rfl⟩ | ⟨rfl, rfl⟩
  all_goals
    go_enter Try.func3, Try.ntmps3
    go_upto_region 8 with (first
      | (go_at_call 14; with_reducible refine (hA.at _).mono ?_; rintro e w' ⟨rfl, hb⟩; obtain ⟨m1, g1, d1, hm1, rfl⟩ := pad_of hb; clear hb; (try simp [pad_size] at hm1); have st1_w := sz2 (n := w.heap.size) (m := m1) (by omega))
      | (go_at_call 15; with_reducible refine (hR.at _).mono ?_; rintro e w' ⟨rfl, hb⟩; obtain ⟨m2, g2, d2, hm2, rfl⟩ := pad_of hb; clear hb; (try simp [pad_size] at hm2); have st2_w := sz2 (n := w.heap.size) (m := m2) (by omega); have st2_1 := sz1 (n := m1) (m := m2) (by omega))
      | (go_at_call 16; with_reducible refine (hS.at _).mono ?_; rintro e w' ⟨rfl, hb⟩; obtain ⟨m3, g3, d3, hm3, rfl⟩ := pad_of hb; clear hb; (try simp [pad_size] at hm3); have st3_w := sz2 (n := w.heap.size) (m := m3) (by omega); have st3_1 := sz1 (n := m1) (m := m3) (by omega); have st3_2 := sz1 (n := m2) (m := m3) (by omega))
      | (go_at_call 17; with_reducible refine (hC.at _).mono ?_; rintro e w' ⟨rfl, hb⟩; obtain ⟨m4, g4, d4, hm4, rfl⟩ := pad_of hb; clear hb; (try simp [pad_size] at hm4); have st4_w := sz2 (n := w.heap.size) (m := m4) (by omega); have st4_1 := sz1 (n := m1) (m := m4) (by omega); have st4_2 := sz1 (n := m2) (m := m4) (by omega); have st4_3 := sz1 (n := m3) (m := m4) (by omega)))
    go_region_held2 (fun W => W.cell? ⟨w.heap.size, 0, none⟩ = some (.int .u64 x0) ∧ W.cell? ⟨w.heap.size, 1, none⟩ = some (.int .u64 x1) ∧ W.cell? ⟨w.heap.size, 2, none⟩ = some (.int .u64 x2) ∧ W.cell? ⟨w.heap.size, 3, none⟩ = some (.int .u64 x3) ∧ W.cell? ⟨w.heap.size + 1, 0, none⟩ = some (.int .u64 y0) ∧ W.cell? ⟨w.heap.size + 1, 1, none⟩ = some (.int .u64 y1) ∧ W.cell? ⟨w.heap.size + 1, 2, none⟩ = some (.int .u64 y2) ∧ W.cell? ⟨w.heap.size + 1, 3, none⟩ = some (.int .u64 y3) ∧ W.cell? ⟨m3, 0, none⟩ = some (.int .u64 z0) ∧ W.cell? ⟨m3, 1, none⟩ = some (.int .u64 z1) ∧ W.cell? ⟨m3, 2, none⟩ = some (.int .u64 z2) ∧ W.cell? ⟨m3, 3, none⟩ = some (.int .u64 z3)) (go_simp) (first
      | (go_at_call 18; with_reducible refine (says_halves.at _).mono ?_; rintro e w' ⟨rfl, hb⟩; obtain ⟨m5, g5, d5, hm5, rfl⟩ := pad_of (bt (bp (Below.refl _ _) (by first | omega | (simp [pad_size]; omega)) _ _) hb); clear hb; (try simp [pad_size] at hm5); have st5_w := sz2 (n := w.heap.size) (m := m5) (by omega); have st5_1 := sz1 (n := m1) (m := m5) (by omega); have st5_2 := sz1 (n := m2) (m := m5) (by omega); have st5_3 := sz1 (n := m3) (m := m5) (by omega); clear st4_w hm4)
      | (go_at_call 21; with_reducible refine (hD.at _).mono ?_; rintro e w' ⟨rfl, hb⟩; obtain ⟨m6, g6, d6, hm6, rfl⟩ := pad_of (bt (bp (Below.refl _ _) (by first | omega | (simp [pad_size]; omega)) _ _) hb); clear hb; (try simp [pad_size] at hm6); have st6_w := sz2 (n := w.heap.size) (m := m6) (by omega); have st6_1 := sz1 (n := m1) (m := m6) (by omega); have st6_2 := sz1 (n := m2) (m := m6) (by omega); have st6_3 := sz1 (n := m3) (m := m6) (by omega); clear st5_w hm5)
      | (go_at_call 19; with_reducible refine (hT.at _).mono ?_; rintro e w' ⟨rfl, hb⟩; obtain ⟨m7, g7, d7, hm7, rfl⟩ := pad_of (bt (bp (Below.refl _ _) (by first | omega | (simp [pad_size]; omega)) _ _) hb); clear hb; (try simp [pad_size] at hm7); have st7_w := sz2 (n := w.heap.size) (m := m7) (by omega); have st7_1 := sz1 (n := m1) (m := m7) (by omega); have st7_2 := sz1 (n := m2) (m := m7) (by omega); have st7_3 := sz1 (n := m3) (m := m7) (by omega); clear st6_w hm6)
      | (go_at_call 20; with_reducible refine (hL.at _).mono ?_; rintro e w' ⟨rfl, hb⟩; obtain ⟨m8, g8, d8, hm8, rfl⟩ := pad_of (bt (bp (Below.refl _ _) (by first | omega | (simp [pad_size]; omega)) _ _) hb); clear hb; (try simp [pad_size] at hm8); have st8_w := sz2 (n := w.heap.size) (m := m8) (by omega); have st8_1 := sz1 (n := m1) (m := m8) (by omega); have st8_2 := sz1 (n := m2) (m := m8) (by omega); have st8_3 := sz1 (n := m3) (m := m8) (by omega); clear st7_w hm7))
    all_goals go_wp2
    all_goals go_ret
    all_goals exact ⟨rfl, by (repeat (first | (with_reducible exact Below.refl _ _) | (with_reducible assumption) | (with_reducible apply bd) | (with_reducible apply ba) | (with_reducible refine bp ?_ (by first | omega | (simp [pad_size]; done) | (simp [pad_size]; omega)) _ _) | (with_reducible refine bs ?_ (by first | omega | (simp [pad_size]; done) | (simp [pad_size]; omega)) _) | (with_reducible refine bt ?_ (by assumption))))⟩

theorem numSums_any (x0 x1 x2 x3 y0 y1 y2 y3 : Int) (hx : Lim x0 x1 x2 x3) (hy : Lim y0 y1 y2 y3) (w : World) :
    Calls Try.prog 3 #[.agg #[.int .u64 x0, .int .u64 x1, .int .u64 x2, .int .u64 x3], .agg #[.int .u64 y0, .int .u64 y1, .int .u64 y2, .int .u64 y3]] w fun e w' => e = .returned (.bool true) ∧ Below w.heap.size w w' := by
  have a0 := val_lo hx
  have b0 := val_lo hy
  have a1 := val_hi hx
  obtain ⟨s0, s1, s2, s3, c, ok, hc, hA, hR⟩ : ∃ (s0 s1 s2 s3 c : Int) (ok : Bool), ((c = 0 ∧ ok = true) ∨ (c = 2 ∧ ok = false)) ∧ Says 14 #[.agg #[.int .u64 x0, .int .u64 x1, .int .u64 x2, .int .u64 x3], .agg #[.int .u64 y0, .int .u64 y1, .int .u64 y2, .int .u64 y3]] (.tuple #[.agg #[.int .u64 s0, .int .u64 s1, .int .u64 s2, .int .u64 s3], .int .i64 c]) ∧ Says 15 #[.agg #[.int .u64 x0, .int .u64 x1, .int .u64 x2, .int .u64 x3], .agg #[.int .u64 y0, .int .u64 y1, .int .u64 y2, .int .u64 y3]] (.tuple #[.agg #[.int .u64 s0, .int .u64 s1, .int .u64 s2, .int .u64 s3], .bool ok]) := by
    by_cases h : val x0 x1 x2 x3 + val y0 y1 y2 y3 < 115792089237316195423570985008687907853269984665640564039457584007913129639936
    · obtain ⟨z0, z1, z2, z3, hz, e⟩ := limbs_of (n := val x0 x1 x2 x3 + val y0 y1 y2 y3) (by omega) h
      exact ⟨z0, z1, z2, z3, 0, true, .inl ⟨rfl, rfl⟩, says_add hx hy hz e, says_addR hx hy hz e⟩
    · exact ⟨0, 0, 0, 0, 2, false, .inr ⟨rfl, rfl⟩, says_add_over hx hy (by omega), says_addR_over hx hy (by omega)⟩
  by_cases h : val x0 x1 x2 x3 < val y0 y1 y2 y3
  · exact numSums_lt _ _ _ _ _ _ _ _ _ _ _ _ _ _ hc hA hR (says_sub_less hx hy h) (says_cmpR hx hy (cmp_lt h)) (says_rest hx hy lim_zero (by rw [val0]; unfold restI; rw [if_neg (by omega)])) (says_least hx hy hx (by unfold leastI; rw [if_pos h])) w
  · obtain ⟨z0, z1, z2, z3, hz, e⟩ := limbs_of (n := val x0 x1 x2 x3 - val y0 y1 y2 y3) (by omega) (by omega)
    have er : val z0 z1 z2 z3 = restI (val x0 x1 x2 x3) (val y0 y1 y2 y3) := by rw [e]; unfold restI; rw [if_pos (by omega)]
    exact numSums_ge _ _ _ _ _ _ _ _ _ _ _ _ z0 z1 z2 z3 _ _ _ hc (cmp_ge (by omega)) hA hR (says_sub hx hy hz (by omega)) (says_cmpR hx hy rfl) (says_restR hx hy hz er) (says_rest hx hy hz er) (says_least hx hy hy (by unfold leastI; rw [if_neg h])) w

theorem numSums_own : ownKnob Try.prog.godebug = none := by kernel_rfl
theorem numSums_laid : laidOutB Try.prog = true := by kernel_rfl

set_option maxRecDepth 100000 in
theorem numSums_lifted (os : Os) (started : os.Started) (H : Type) (enc : TypeId × Value → H) :
    ReturnsInHanded {} Try.checked os 3 .any (Rows.numSumsSpec.pre6 enc Try.prog Try.f3 Rows.numSumsRow.domain false) (Rows.numSumsSpec.post enc Try.prog Try.f3 false true false false) := by
  refine returnsInHanded_of_change (C := Try.checked) numSums_own started (by kernel_rfl) Try.func3
    (ChangeSpec.witness6 (enc := enc) (C := Try.checked) false ⟨#[], #[.agg #[.int .u64 0, .int .u64 0, .int .u64 0, .int .u64 0], .agg #[.int .u64 0, .int .u64 0, .int .u64 0, .int .u64 0]], []⟩ 8 (by kernel_rfl) (by kernel_rfl) (by kernel_rfl) (by kernel_rfl)) ?_
  intro W base args ds gs before hval0 hW hcnd _
  have hval : ∀ (j : Nat) t v, Try.f3.params[j]? = some t → args[j]? = some v → Value.okWide Try.prog W .any base t v := hval0
  have hW' := hW
  obtain ⟨p, q, hA0, hV, rfl, hfz, hnd⟩ := hW
  have hA : DataW.TrodAll enc Try.prog W 0 (fun _ => true) true Try.f3.params.toList args.toList ds p := hA0
  rw [Try.params3] at hA hval
  obtain ⟨v0, vs0, d0, ds0, p0, q0, hargs0, rfl, rfl, h0, r0⟩ := trodAll_cons hA
  obtain ⟨v1, vs1, d1, ds1, p1, q1, hargs1, rfl, rfl, h1, r1⟩ := trodAll_cons r0
  obtain ⟨rfl, rfl, rfl⟩ := trodAll_nil r1
  obtain rfl : args = #[v0, v1] := by cases args; simp_all
  obtain ⟨rfl, rfl⟩ := trodVars_none hV
  have k0 := h0
  have lt0 : ∀ x ∈ p0, x.block < W.heap.size := by obtain ⟨m, hm⟩ := k0; exact DataW.trod_lt m _ _ _ hm
  have k1 := h1
  have lt1 : ∀ x ∈ p1, x.block < W.heap.size := by obtain ⟨m, hm⟩ := k1; exact DataW.trod_lt m _ _ _ hm
  obtain ⟨x0, x1, x2, x3, rfl, hx⟩ := num_in (hval 0 24 v0 rfl rfl) h0
  obtain ⟨y0, y1, y2, y3, rfl, hy⟩ := num_in (hval 1 24 v1 rfl rfl) h1
  clear hA0 hval0
  have walk : Calls Try.prog 3 _ W fun e w' => e = .returned (.bool true) ∧ Below W.heap.size W w' := numSums_any x0 x1 x2 x3 y0 y1 y2 y3 hx hy W
  refine walk.mono fun e W' ⟨he, bel⟩ => ?_
  subst he
  exact ⟨_, rfl, _, _, _, [], _, [], hW', trodAll_mk1 (shut_bool Try.underlying4 _), trodAll_cons_mk (Below.trod numSums_laid (by kernel_rfl) (of_decide_eq_true (by kernel_rfl)) k0 bel lt0) (trodAll_cons_mk (Below.trod numSums_laid (by kernel_rfl) (of_decide_eq_true (by kernel_rfl)) k1 bel lt1) (trodAll_mk0)), rfl, bel.frame _, fun h => by cases h⟩

theorem numSums_holds : Rows.NumSumsSaid :=
  OpenClaim.holds_of_wide 3 Try.f3 rfl rfl rfl rfl rfl rfl rfl ⟨rfl, rfl, rfl, rfl, rfl⟩ rfl rfl rfl rfl rfl (by kernel_rfl) Try.func3 (by kernel_rfl)
    (of_decide_eq_true (by kernel_rfl)) (by unfold Func.isWrapper; first | (rw [if_pos (by decide +kernel)]; kernel_rfl) | (rw [if_neg (by decide +kernel)]; exact ⟨rfl, rfl⟩))
    (fun os started H enc _ => numSums_lifted os started H enc)
#print axioms numSums_holds
end Go.Proofs.Ytkeimndlcagbbaa
