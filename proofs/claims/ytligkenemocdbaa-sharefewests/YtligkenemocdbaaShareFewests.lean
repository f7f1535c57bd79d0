
/- For every three numbers jointurelaw08.ShareFewests returns true and writes nothing that was there: the fewest shares are worth as much, and one fewer isn't. No condition. -/
import Derived.Test.YtligkenemocdbaaSH3
set_option linter.unusedSimpArgs false
set_option linter.unusedVariables false
namespace Go.Proofs.Ytligkenemocdbaa
open Go.ChangeShapes Go.WideShapes Go.ChangeAt Go.RowKit

set_option maxRecDepth 100000 in
set_option maxHeartbeats 4000000 in
theorem shareFewests_z {x0 x1 x2 x3 y0 y1 y2 y3 z0 z1 z2 z3 : Int} (hq : eq4 z0 z1 z2 z3 0 0 0 0 = true) (h1 : Says 15 #[.agg #[.int .u64 x0, .int .u64 x1, .int .u64 x2, .int .u64 x3], .agg #[.int .u64 y0, .int .u64 y1, .int .u64 y2, .int .u64 y3], .agg #[.int .u64 z0, .int .u64 z1, .int .u64 z2, .int .u64 z3]] (.tuple #[.agg #[.int .u64 0, .int .u64 0, .int .u64 0, .int .u64 0], .int .i64 0])) (h2 : Says 16 #[.agg #[.int .u64 x0, .int .u64 x1, .int .u64 x2, .int .u64 x3], .agg #[.int .u64 y0, .int .u64 y1, .int .u64 y2, .int .u64 y3], .agg #[.int .u64 z0, .int .u64 z1, .int .u64 z2, .int .u64 z3]] (.tuple #[.agg #[.int .u64 0, .int .u64 0, .int .u64 0, .int .u64 0], .int .i64 0])) (w : World) :
    Calls Try.prog 5 #[.agg #[.int .u64 x0, .int .u64 x1, .int .u64 x2, .int .u64 x3], .agg #[.int .u64 y0, .int .u64 y1, .int .u64 y2, .int .u64 y3], .agg #[.int .u64 z0, .int .u64 z1, .int .u64 z2, .int .u64 z3]] w fun e w' => e = .returned (.bool true) ∧ Below w.heap.size w w' := by
  have hpad := pads
  have heq := eq_num
  have hes := eq4_self
  have h00 := eq4_self 0 0 0 0
  go_enter Try.func5, Try.ntmps5
  go_wp2_with (first
    | (go_at_call 15; with_reducible refine (h1.at _).mono ?_; rintro e w' ⟨rfl, hb⟩; obtain ⟨m1, g1, d1, hm1, rfl⟩ := pad_of hb; clear hb; (try simp [pad_size] at hm1); have st1_w := sz3 (n := w.heap.size) (m := m1) (by omega))
    | (go_at_call 16; with_reducible refine (h2.at _).mono ?_; rintro e w' ⟨rfl, hb⟩; obtain ⟨m2, g2, d2, hm2, rfl⟩ := pad_of hb; clear hb; (try simp [pad_size] at hm2); have st2_w := sz3 (n := w.heap.size) (m := m2) (by omega); have st2_1 := sz1 (n := m1) (m := m2) (by omega))
    | (go_at_call 10; with_reducible refine (says_worths.at _).mono ?_; rintro e w' ⟨rfl, hb⟩; obtain ⟨m3, g3, d3, hm3, rfl⟩ := pad_of hb; clear hb; (try simp [pad_size] at hm3); have st3_w := sz3 (n := w.heap.size) (m := m3) (by omega); have st3_1 := sz1 (n := m1) (m := m3) (by omega); have st3_2 := sz1 (n := m2) (m := m3) (by omega)))
  all_goals go_ret
  all_goals exact ⟨rfl, by (repeat (first | (with_reducible exact Below.refl _ _) | (with_reducible assumption) | (with_reducible apply bd) | (with_reducible apply ba) | (with_reducible refine bp ?_ (by first | omega | (simp [pad_size]; done) | (simp [pad_size]; omega)) _ _) | (with_reducible refine bs ?_ (by first | omega | (simp [pad_size]; done) | (simp [pad_size]; omega)) _) | (with_reducible refine bt ?_ (by assumption))))⟩
set_option maxRecDepth 100000 in
set_option maxHeartbeats 4000000 in
theorem shareFewests_e {x0 x1 x2 x3 y0 y1 y2 y3 z0 z1 z2 z3 : Int} (hq : eq4 z0 z1 z2 z3 0 0 0 0 = false) (h1 : Says 15 #[.agg #[.int .u64 x0, .int .u64 x1, .int .u64 x2, .int .u64 x3], .agg #[.int .u64 y0, .int .u64 y1, .int .u64 y2, .int .u64 y3], .agg #[.int .u64 z0, .int .u64 z1, .int .u64 z2, .int .u64 z3]] (.tuple #[.agg #[.int .u64 0, .int .u64 0, .int .u64 0, .int .u64 0], .int .i64 3])) (h2 : Says 16 #[.agg #[.int .u64 x0, .int .u64 x1, .int .u64 x2, .int .u64 x3], .agg #[.int .u64 y0, .int .u64 y1, .int .u64 y2, .int .u64 y3], .agg #[.int .u64 z0, .int .u64 z1, .int .u64 z2, .int .u64 z3]] (.tuple #[.agg #[.int .u64 0, .int .u64 0, .int .u64 0, .int .u64 0], .int .i64 3])) (w : World) :
    Calls Try.prog 5 #[.agg #[.int .u64 x0, .int .u64 x1, .int .u64 x2, .int .u64 x3], .agg #[.int .u64 y0, .int .u64 y1, .int .u64 y2, .int .u64 y3], .agg #[.int .u64 z0, .int .u64 z1, .int .u64 z2, .int .u64 z3]] w fun e w' => e = .returned (.bool true) ∧ Below w.heap.size w w' := by
  have hpad := pads
  have heq := eq_num
  have hes := eq4_self
  have h00 := eq4_self 0 0 0 0
  go_enter Try.func5, Try.ntmps5
  go_wp2_with (first
    | (go_at_call 15; with_reducible refine (h1.at _).mono ?_; rintro e w' ⟨rfl, hb⟩; obtain ⟨m1, g1, d1, hm1, rfl⟩ := pad_of hb; clear hb; (try simp [pad_size] at hm1); have st1_w := sz3 (n := w.heap.size) (m := m1) (by omega))
    | (go_at_call 16; with_reducible refine (h2.at _).mono ?_; rintro e w' ⟨rfl, hb⟩; obtain ⟨m2, g2, d2, hm2, rfl⟩ := pad_of hb; clear hb; (try simp [pad_size] at hm2); have st2_w := sz3 (n := w.heap.size) (m := m2) (by omega); have st2_1 := sz1 (n := m1) (m := m2) (by omega))
    | (go_at_call 10; with_reducible refine (says_worths.at _).mono ?_; rintro e w' ⟨rfl, hb⟩; obtain ⟨m3, g3, d3, hm3, rfl⟩ := pad_of hb; clear hb; (try simp [pad_size] at hm3); have st3_w := sz3 (n := w.heap.size) (m := m3) (by omega); have st3_1 := sz1 (n := m1) (m := m3) (by omega); have st3_2 := sz1 (n := m2) (m := m3) (by omega)))
  all_goals go_ret
  all_goals exact ⟨rfl, by (repeat (first | (with_reducible exact Below.refl _ _) | (with_reducible assumption) | (with_reducible apply bd) | (with_reducible apply ba) | (with_reducible refine bp ?_ (by first | omega | (simp [pad_size]; done) | (simp [pad_size]; omega)) _ _) | (with_reducible refine bs ?_ (by first | omega | (simp [pad_size]; done) | (simp [pad_size]; omega)) _) | (with_reducible refine bt ?_ (by assumption))))⟩
set_option maxRecDepth 100000 in
set_option maxHeartbeats 4000000 in
theorem shareFewests_w {x0 x1 x2 x3 y0 y1 y2 y3 z0 z1 z2 z3 r0 r1 r2 r3 l0 l1 l2 l3 p0 p1 p2 p3 q0 q1 q2 q3 c d f : Int} (hq : eq4 z0 z1 z2 z3 0 0 0 0 = false) (h1 : Says 15 #[.agg #[.int .u64 x0, .int .u64 x1, .int .u64 x2, .int .u64 x3], .agg #[.int .u64 y0, .int .u64 y1, .int .u64 y2, .int .u64 y3], .agg #[.int .u64 z0, .int .u64 z1, .int .u64 z2, .int .u64 z3]] (.tuple #[.agg #[.int .u64 r0, .int .u64 r1, .int .u64 r2, .int .u64 r3], .int .i64 0])) (h2 : Says 16 #[.agg #[.int .u64 x0, .int .u64 x1, .int .u64 x2, .int .u64 x3], .agg #[.int .u64 y0, .int .u64 y1, .int .u64 y2, .int .u64 y3], .agg #[.int .u64 z0, .int .u64 z1, .int .u64 z2, .int .u64 z3]] (.tuple #[.agg #[.int .u64 r0, .int .u64 r1, .int .u64 r2, .int .u64 r3], .int .i64 0])) (h3 : Says 17 #[.agg #[.int .u64 r0, .int .u64 r1, .int .u64 r2, .int .u64 r3], .agg #[.int .u64 1, .int .u64 0, .int .u64 0, .int .u64 0]] (.agg #[.int .u64 l0, .int .u64 l1, .int .u64 l2, .int .u64 l3])) (h4 : Says 18 #[.agg #[.int .u64 r0, .int .u64 r1, .int .u64 r2, .int .u64 r3], .agg #[.int .u64 y0, .int .u64 y1, .int .u64 y2, .int .u64 y3]] (.int .i64 c)) (h5 : Says 11 #[.agg #[.int .u64 x0, .int .u64 x1, .int .u64 x2, .int .u64 x3], .agg #[.int .u64 y0, .int .u64 y1, .int .u64 y2, .int .u64 y3], .agg #[.int .u64 r0, .int .u64 r1, .int .u64 r2, .int .u64 r3]] (.agg #[.int .u64 p0, .int .u64 p1, .int .u64 p2, .int .u64 p3])) (h6 : Says 18 #[.agg #[.int .u64 p0, .int .u64 p1, .int .u64 p2, .int .u64 p3], .agg #[.int .u64 z0, .int .u64 z1, .int .u64 z2, .int .u64 z3]] (.int .i64 d)) (h7 : Says 11 #[.agg #[.int .u64 x0, .int .u64 x1, .int .u64 x2, .int .u64 x3], .agg #[.int .u64 y0, .int .u64 y1, .int .u64 y2, .int .u64 y3], .agg #[.int .u64 l0, .int .u64 l1, .int .u64 l2, .int .u64 l3]] (.agg #[.int .u64 q0, .int .u64 q1, .int .u64 q2, .int .u64 q3])) (h8 : Says 18 #[.agg #[.int .u64 q0, .int .u64 q1, .int .u64 q2, .int .u64 q3], .agg #[.int .u64 z0, .int .u64 z1, .int .u64 z2, .int .u64 z3]] (.int .i64 f)) (hc : decide (c ≤ 0) = true) (hd : decide (0 ≤ d) = true) (hf : decide (f < 0) = true) (w : World) :
    Calls Try.prog 5 #[.agg #[.int .u64 x0, .int .u64 x1, .int .u64 x2, .int .u64 x3], .agg #[.int .u64 y0, .int .u64 y1, .int .u64 y2, .int .u64 y3], .agg #[.int .u64 z0, .int .u64 z1, .int .u64 z2, .int .u64 z3]] w fun e w' => e = .returned (.bool true) ∧ Below w.heap.size w w' := by
  have hpad := pads
  have heq := eq_num
  have hes := eq4_self
  go_enter Try.func5, Try.ntmps5
  go_upto_region 8 with (first
    | (go_at_call 15; with_reducible refine (h1.at _).mono ?_; rintro e w' ⟨rfl, hb⟩; obtain ⟨m1, g1, d1, hm1, rfl⟩ := pad_of hb; clear hb; (try simp [pad_size] at hm1); have st1_w := sz3 (n := w.heap.size) (m := m1) (by omega))
    | (go_at_call 16; with_reducible refine (h2.at _).mono ?_; rintro e w' ⟨rfl, hb⟩; obtain ⟨m2, g2, d2, hm2, rfl⟩ := pad_of hb; clear hb; (try simp [pad_size] at hm2); have st2_w := sz3 (n := w.heap.size) (m := m2) (by omega); have st2_1 := sz1 (n := m1) (m := m2) (by omega))
    | (go_at_call 17; with_reducible refine (h3.at _).mono ?_; rintro e w' ⟨rfl, hb⟩; obtain ⟨m3, g3, d3, hm3, rfl⟩ := pad_of hb; clear hb; (try simp [pad_size] at hm3); have st3_w := sz3 (n := w.heap.size) (m := m3) (by omega); have st3_1 := sz1 (n := m1) (m := m3) (by omega); have st3_2 := sz1 (n := m2) (m := m3) (by omega)))
  go_region_held2 (fun W => W.cell? ⟨w.heap.size, 0, none⟩ = some (.int .u64 x0) ∧ W.cell? ⟨w.heap.size, 1, none⟩ = some (.int .u64 x1) ∧ W.cell? ⟨w.heap.size, 2, none⟩ = some (.int .u64 x2) ∧ W.cell? ⟨w.heap.size, 3, none⟩ = some (.int .u64 x3) ∧ W.cell? ⟨w.heap.size + 1, 0, none⟩ = some (.int .u64 y0) ∧ W.cell? ⟨w.heap.size + 1, 1, none⟩ = some (.int .u64 y1) ∧ W.cell? ⟨w.heap.size + 1, 2, none⟩ = some (.int .u64 y2) ∧ W.cell? ⟨w.heap.size + 1, 3, none⟩ = some (.int .u64 y3) ∧ W.cell? ⟨w.heap.size + 1 + 1, 0, none⟩ = some (.int .u64 z0) ∧ W.cell? ⟨w.heap.size + 1 + 1, 1, none⟩ = some (.int .u64 z1) ∧ W.cell? ⟨w.heap.size + 1 + 1, 2, none⟩ = some (.int .u64 z2) ∧ W.cell? ⟨w.heap.size + 1 + 1, 3, none⟩ = some (.int .u64 z3) ∧ W.cell? ⟨m1, 0, none⟩ = some (.int .u64 r0) ∧ W.cell? ⟨m1, 1, none⟩ = some (.int .u64 r1) ∧ W.cell? ⟨m1, 2, none⟩ = some (.int .u64 r2) ∧ W.cell? ⟨m1, 3, none⟩ = some (.int .u64 r3) ∧ W.cell? ⟨m3, 0, none⟩ = some (.int .u64 l0) ∧ W.cell? ⟨m3, 1, none⟩ = some (.int .u64 l1) ∧ W.cell? ⟨m3, 2, none⟩ = some (.int .u64 l2) ∧ W.cell? ⟨m3, 3, none⟩ = some (.int .u64 l3)) (go_simp) (first
    | (go_at_call 10; with_reducible refine (says_worths.at _).mono ?_; rintro e w' ⟨rfl, hb⟩; obtain ⟨m4, g4, d4, hm4, rfl⟩ := pad_of hb; clear hb; (try simp [pad_size] at hm4); have st4_w := sz3 (n := w.heap.size) (m := m4) (by omega); have st4_1 := sz1 (n := m1) (m := m4) (by omega); have st4_2 := sz1 (n := m2) (m := m4) (by omega); have st4_3 := sz1 (n := m3) (m := m4) (by omega))
    | (go_at_call 18; with_reducible refine (h4.at _).mono ?_; rintro e w' ⟨rfl, hb⟩; obtain ⟨m5, g5, d5, hm5, rfl⟩ := pad_of hb; clear hb; (try simp [pad_size] at hm5); have st5_w := sz3 (n := w.heap.size) (m := m5) (by omega); have st5_1 := sz1 (n := m1) (m := m5) (by omega); have st5_2 := sz1 (n := m2) (m := m5) (by omega); have st5_3 := sz1 (n := m3) (m := m5) (by omega))
    | (go_at_call 11; with_reducible refine (h5.at _).mono ?_; rintro e w' ⟨rfl, hb⟩; obtain ⟨m6, g6, d6, hm6, rfl⟩ := pad_of hb; clear hb; (try simp [pad_size] at hm6); have st6_w := sz3 (n := w.heap.size) (m := m6) (by omega); have st6_1 := sz1 (n := m1) (m := m6) (by omega); have st6_2 := sz1 (n := m2) (m := m6) (by omega); have st6_3 := sz1 (n := m3) (m := m6) (by omega))
    | (go_at_call 18; with_reducible refine (h6.at _).mono ?_; rintro e w' ⟨rfl, hb⟩; obtain ⟨m7, g7, d7, hm7, rfl⟩ := pad_of hb; clear hb; (try simp [pad_size] at hm7); have st7_w := sz3 (n := w.heap.size) (m := m7) (by omega); have st7_1 := sz1 (n := m1) (m := m7) (by omega); have st7_2 := sz1 (n := m2) (m := m7) (by omega); have st7_3 := sz1 (n := m3) (m := m7) (by omega))
    | (go_at_call 11; with_reducible refine (h7.at _).mono ?_; rintro e w' ⟨rfl, hb⟩; obtain ⟨m8, g8, d8, hm8, rfl⟩ := pad_of hb; clear hb; (try simp [pad_size] at hm8); have st8_w := sz3 (n := w.heap.size) (m := m8) (by omega); have st8_1 := sz1 (n := m1) (m := m8) (by omega); have st8_2 := sz1 (n := m2) (m := m8) (by omega); have st8_3 := sz1 (n := m3) (m := m8) (by omega))
    | (go_at_call 18; with_reducible refine (h8.at _).mono ?_; rintro e w' ⟨rfl, hb⟩; obtain ⟨m9, g9, d9, hm9, rfl⟩ := pad_of hb; clear hb; (try simp [pad_size] at hm9); have st9_w := sz3 (n := w.heap.size) (m := m9) (by omega); have st9_1 := sz1 (n := m1) (m := m9) (by omega); have st9_2 := sz1 (n := m2) (m := m9) (by omega); have st9_3 := sz1 (n := m3) (m := m9) (by omega)))
  all_goals go_wp2
  all_goals go_ret
  all_goals exact ⟨rfl, by (repeat (first | (with_reducible exact Below.refl _ _) | (with_reducible assumption) | (with_reducible apply bd) | (with_reducible apply ba) | (with_reducible refine bp ?_ (by first | omega | (simp [pad_size]; done) | (simp [pad_size]; omega)) _ _) | (with_reducible refine bs ?_ (by first | omega | (simp [pad_size]; done) | (simp [pad_size]; omega)) _) | (with_reducible refine bt ?_ (by assumption))))⟩

theorem shareFewests_any (x0 x1 x2 x3 y0 y1 y2 y3 z0 z1 z2 z3 : Int) (hx : Lim x0 x1 x2 x3) (hy : Lim y0 y1 y2 y3) (hz : Lim z0 z1 z2 z3) (w : World) :
    Calls Try.prog 5 #[.agg #[.int .u64 x0, .int .u64 x1, .int .u64 x2, .int .u64 x3], .agg #[.int .u64 y0, .int .u64 y1, .int .u64 y2, .int .u64 y3], .agg #[.int .u64 z0, .int .u64 z1, .int .u64 z2, .int .u64 z3]] w fun e w' => e = .returned (.bool true) ∧ Below w.heap.size w w' := by
  obtain ⟨r0, r1, r2, r3, c, hr, hs, h1, h2⟩ := fewest_ex hx hy hz
  rcases hs with ⟨hn, er, rfl⟩ | ⟨hn, -, er, rfl⟩ | ⟨hn, hnt, hs0, rfl, r1', rs, hw, hl⟩
  · obtain ⟨rfl, rfl, rfl, rfl⟩ := (val_zero hr).1 er
    exact shareFewests_z (by rw [eq4_zero hz]; exact decide_eq_true hn) h1 h2 w
  · obtain ⟨rfl, rfl, rfl, rfl⟩ := (val_zero hr).1 er
    exact shareFewests_e (by rw [eq4_zero hz]; exact decide_eq_false hn) h1 h2 w
  · have l1 : Lim 1 0 0 0 := by unfold Lim; omega
    obtain ⟨l0, l1', l2, l3, hl', el⟩ := rest_ex hr l1
    rw [val_of, restI_of_le r1'] at el
    obtain ⟨p0, p1, p2, p3, hp, ep⟩ := worth_ex hx hy hr
    obtain ⟨q0, q1, q2, q3, hq, eq⟩ := worth_ex hx hy hl'
    refine shareFewests_w (by rw [eq4_zero hz]; exact decide_eq_false hn) h1 h2 (says_restR hr l1 hl' (by rw [val_of, restI_of_le r1']; exact el)) (says_cmpR hr hy rfl) (says_worthV hx hy hr hp ep) (says_cmpR hp hz rfl) (says_worthV hx hy hl' hq eq) (says_cmpR hq hz rfl) (decide_eq_true (cmp_le0 rs)) (cmp_ged (by rw [ep]; exact hw)) (cmp_negd (by rw [eq, el]; exact hl)) w

theorem shareFewests_own : ownKnob Try.prog.godebug = none := by kernel_rfl
theorem shareFewests_laid : laidOutB Try.prog = true := by kernel_rfl

set_option maxRecDepth 100000 in
theorem shareFewests_lifted (os : Os) (started : os.Started) (H : Type) (enc : TypeId × Value → H) :
    ReturnsInHanded {} Try.checked os 5 .any (Rows.shareFewestsSpec.pre6 enc Try.prog Try.f5 Rows.shareFewestsRow.domain false) (Rows.shareFewestsSpec.post enc Try.prog Try.f5 false true false false) := by
  refine returnsInHanded_of_change (C := Try.checked) shareFewests_own started (by kernel_rfl) Try.func5
    (ChangeSpec.witness6 (enc := enc) (C := Try.checked) false ⟨#[], #[.agg #[.int .u64 0, .int .u64 0, .int .u64 0, .int .u64 0], .agg #[.int .u64 0, .int .u64 0, .int .u64 0, .int .u64 0], .agg #[.int .u64 0, .int .u64 0, .int .u64 0, .int .u64 0]], []⟩ 8 (by kernel_rfl) (by kernel_rfl) (by kernel_rfl) (by kernel_rfl)) ?_
  intro W base args ds gs before hval0 hW hcnd _
  have hval : ∀ (j : Nat) t v, Try.f5.params[j]? = some t → args[j]? = some v → Value.okWide Try.prog W .any base t v := hval0
  have hW' := hW
  obtain ⟨p, q, hA0, hV, rfl, hfz, hnd⟩ := hW
  have hA : DataW.TrodAll enc Try.prog W 0 (fun _ => true) true Try.f5.params.toList args.toList ds p := hA0
  rw [Try.params5] at hA hval
  obtain ⟨v0, vs0, d0, ds0, p0, q0, hargs0, rfl, rfl, h0, r0⟩ := trodAll_cons hA
  obtain ⟨v1, vs1, d1, ds1, p1, q1, hargs1, rfl, rfl, h1, r1⟩ := trodAll_cons r0
  obtain ⟨v2, vs2, d2, ds2, p2, q2, hargs2, rfl, rfl, h2, r2⟩ := trodAll_cons r1
  obtain ⟨rfl, rfl, rfl⟩ := trodAll_nil r2
  obtain rfl : args = #[v0, v1, v2] := by cases args; simp_all
  obtain ⟨rfl, rfl⟩ := trodVars_none hV
  have k0 := h0
  have lt0 : ∀ x ∈ p0, x.block < W.heap.size := by obtain ⟨m, hm⟩ := k0; exact DataW.trod_lt m _ _ _ hm
  have k1 := h1
  have lt1 : ∀ x ∈ p1, x.block < W.heap.size := by obtain ⟨m, hm⟩ := k1; exact DataW.trod_lt m _ _ _ hm
  have k2 := h2
  have lt2 : ∀ x ∈ p2, x.block < W.heap.size := by obtain ⟨m, hm⟩ := k2; exact DataW.trod_lt m _ _ _ hm
  obtain ⟨x0, x1, x2, x3, rfl, hx⟩ := num_in (hval 0 24 v0 rfl rfl) h0
  obtain ⟨y0, y1, y2, y3, rfl, hy⟩ := num_in (hval 1 24 v1 rfl rfl) h1
  obtain ⟨z0, z1, z2, z3, rfl, hz⟩ := num_in (hval 2 24 v2 rfl rfl) h2
  clear hA0 hval0
  have walk : Calls Try.prog 5 _ W fun e w' => e = .returned (.bool true) ∧ Below W.heap.size W w' := shareFewests_any x0 x1 x2 x3 y0 y1 y2 y3 z0 z1 z2 z3 hx hy hz W
  refine walk.mono fun e W' ⟨he, bel⟩ => ?_
  subst he
  exact ⟨_, rfl, _, _, _, [], _, [], hW', trodAll_mk1 (shut_bool Try.underlying4 _), trodAll_cons_mk (Below.trod shareFewests_laid (by kernel_rfl) (of_decide_eq_true (by kernel_rfl)) k0 bel lt0) (trodAll_cons_mk (Below.trod shareFewests_laid (by kernel_rfl) (of_decide_eq_true (by kernel_rfl)) k1 bel lt1) (trodAll_cons_mk (Below.trod shareFewests_laid (by kernel_rfl) (of_decide_eq_true (by kernel_rfl)) k2 bel lt2) (trodAll_mk0))), rfl, bel.frame _, fun h => by cases h⟩

theorem shareFewests_holds : Rows.ShareFewestsSaid :=
  OpenClaim.holds_of_wide 5 Try.f5 rfl rfl rfl rfl rfl rfl rfl ⟨rfl, rfl, rfl, rfl, rfl⟩ rfl rfl rfl rfl rfl (by kernel_rfl) Try.func5 (by kernel_rfl)
    (of_decide_eq_true (by kernel_rfl)) (by unfold Func.isWrapper; first | (rw [if_pos (by decide +kernel)]; kernel_rfl) | (rw [if_neg (by decide +kernel)]; exact ⟨rfl, rfl⟩))
    (fun os started H enc _ => shareFewests_lifted os started H enc)
#print axioms shareFewests_holds
end Go.Proofs.Ytligkenemocdbaa
