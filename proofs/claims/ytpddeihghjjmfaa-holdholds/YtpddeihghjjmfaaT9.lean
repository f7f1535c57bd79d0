
/- HoldHolds' walks, where the answers of what it calls are known. -/
import Derived.Test.YtpddeihghjjmfaaT8
set_option linter.unusedSimpArgs false
set_option linter.unusedVariables false
namespace Go.Proofs.Ytpddeihghjjmfaa
open Go.ChangeShapes Go.WideShapes Go.ChangeAt Go.RowKit

set_option maxRecDepth 100000 in
set_option maxHeartbeats 4000000 in
theorem holdHolds_less {k0 k1 k2 k3 f0 f1 f2 f3 b0 b1 b2 b3 l0 l1 l2 l3 n0 n1 n2 n3 o0 o1 o2 o3 c1 : Int} (hc1 : decide (c1 < 0) = true) (h1 : Says 18 #[.agg #[.int .u64 l0, .int .u64 l1, .int .u64 l2, .int .u64 l3], .agg #[.int .u64 k0, .int .u64 k1, .int .u64 k2, .int .u64 k3]] (.agg #[.int .u64 o0, .int .u64 o1, .int .u64 o2, .int .u64 o3])) (h2 : Says 17 #[.agg #[.int .u64 b0, .int .u64 b1, .int .u64 b2, .int .u64 b3], .agg #[.int .u64 o0, .int .u64 o1, .int .u64 o2, .int .u64 o3]] (.int .i64 c1)) (w : World) :
    Calls Try.prog 7 #[.agg #[.int .u64 k0, .int .u64 k1, .int .u64 k2, .int .u64 k3, .int .u64 f0, .int .u64 f1, .int .u64 f2, .int .u64 f3], .agg #[.int .u64 b0, .int .u64 b1, .int .u64 b2, .int .u64 b3], .agg #[.int .u64 l0, .int .u64 l1, .int .u64 l2, .int .u64 l3], .agg #[.int .u64 n0, .int .u64 n1, .int .u64 n2, .int .u64 n3]] w fun e w' => e = .returned (.bool true) ∧ Below w.heap.size w w' := by
  have hpad := pads
  have hfld := field0
  go_enter Try.func7, Try.ntmps7
  go_upto_region 1 with fail
  go_cut [21] from 15 to 21 (fun s21 wx => s21 = .bool true ∧ w.heap.size + 1 + 1 + 1 + 1 ≤ wx.heap.size ∧ Below w.heap.size w wx ∧ wx.heap[w.heap.size]? = some (.cells #[.int .u64 k0, .int .u64 k1, .int .u64 k2, .int .u64 k3, .int .u64 f0, .int .u64 f1, .int .u64 f2, .int .u64 f3] 26 (0, 0)) ∧ wx.heap[w.heap.size + 1]? = some (.cells #[.int .u64 b0, .int .u64 b1, .int .u64 b2, .int .u64 b3] 24 (0, 0)) ∧ wx.heap[w.heap.size + 1 + 1]? = some (.cells #[.int .u64 l0, .int .u64 l1, .int .u64 l2, .int .u64 l3] 24 (0, 0)) ∧ wx.heap[w.heap.size + 1 + 1 + 1]? = some (.cells #[.int .u64 n0, .int .u64 n1, .int .u64 n2, .int .u64 n3] 24 (0, 0)))
  case first =>
    go_region_held2 (fun W => W.cell? ⟨w.heap.size + 1, 0, none⟩ = some (.int .u64 b0) ∧ W.cell? ⟨w.heap.size + 1, 1, none⟩ = some (.int .u64 b1) ∧ W.cell? ⟨w.heap.size + 1, 2, none⟩ = some (.int .u64 b2) ∧ W.cell? ⟨w.heap.size + 1, 3, none⟩ = some (.int .u64 b3) ∧ W.cell? ⟨w.heap.size + 1 + 1, 0, none⟩ = some (.int .u64 l0) ∧ W.cell? ⟨w.heap.size + 1 + 1, 1, none⟩ = some (.int .u64 l1) ∧ W.cell? ⟨w.heap.size + 1 + 1, 2, none⟩ = some (.int .u64 l2) ∧ W.cell? ⟨w.heap.size + 1 + 1, 3, none⟩ = some (.int .u64 l3) ∧ W.cell? ⟨w.heap.size, 0, none⟩ = some (.int .u64 k0) ∧ W.cell? ⟨w.heap.size, 1, none⟩ = some (.int .u64 k1) ∧ W.cell? ⟨w.heap.size, 2, none⟩ = some (.int .u64 k2) ∧ W.cell? ⟨w.heap.size, 3, none⟩ = some (.int .u64 k3)) (go_simp) (first
      | (go_at_call 18; with_reducible refine (h1.at _).mono ?_; rintro e w' ⟨rfl, hb⟩; obtain ⟨m1, g1, d1, hm1, rfl⟩ := pad_of hb; clear hb; (try simp [pad_size] at hm1); have st1_w := sz4 (n := w.heap.size) (m := m1) (by omega))
      | (go_at_call 17; with_reducible refine (h2.at _).mono ?_; rintro e w' ⟨rfl, hb⟩; obtain ⟨m2, g2, d2, hm2, rfl⟩ := pad_of hb; clear hb; (try simp [pad_size] at hm2); have st2_w := sz4 (n := w.heap.size) (m := m2) (by omega)))
    all_goals (go_wp2_with fail; go_meet)
    all_goals refine ⟨by first | rfl | simp [hc1], ?_, ?_, ?_, ?_, ?_, ?_⟩
    all_goals first
      | (exact (by first | omega | (simp [pad_size]; done) | (simp [pad_size]; omega)))
      | (((repeat (first | (with_reducible exact Below.refl _ _) | (with_reducible assumption) | (with_reducible apply bd) | (with_reducible apply ba) | (with_reducible refine bp ?_ (by first | omega | (simp [pad_size]; done) | (simp [pad_size]; omega)) _ _) | (with_reducible refine bs ?_ (by first | omega | (simp [pad_size]; done) | (simp [pad_size]; omega)) _) | (with_reducible refine bt ?_ (by assumption))))); done)
      | (((repeat (first | (with_reducible exact al_at (by simp [pad_size])) | (with_reducible refine Eq.trans (dr_blk _ _) ?_) | (with_reducible refine Eq.trans (al_old (by first | omega | (simp [pad_size]; done) | (simp [pad_size]; omega))) ?_) | (with_reducible refine Eq.trans (pad_block (by first | omega | (simp [pad_size]; done) | (simp [pad_size]; omega)) (by first | omega | (simp [pad_size]; done) | (simp [pad_size]; omega))) ?_) | (with_reducible assumption)))); done)
  case rest =>
    obtain ⟨rfl, hsz, hbw, q0, q1, q2, q3⟩ := hcut
    go_wp2_with (go_at_call 10; with_reducible refine (says_tracks.at _).mono ?_; rintro e w' ⟨rfl, hb⟩; obtain ⟨m1, g1, d1, hm1, rfl⟩ := pad_of hb; clear hb; (try simp [pad_size] at hm1))
    all_goals go_ret
    all_goals exact ⟨rfl, bt hbw (by (repeat (first | (with_reducible exact Below.refl _ _) | (with_reducible assumption) | (with_reducible apply bd) | (with_reducible apply ba) | (with_reducible refine bp ?_ (by first | omega | (simp [pad_size]; done) | (simp [pad_size]; omega)) _ _) | (with_reducible refine bs ?_ (by first | omega | (simp [pad_size]; done) | (simp [pad_size]; omega)) _) | (with_reducible refine bt ?_ (by assumption)))))⟩

set_option maxRecDepth 100000 in
set_option maxHeartbeats 4000000 in
theorem holdHolds_main {k0 k1 k2 k3 f0 f1 f2 f3 b0 b1 b2 b3 l0 l1 l2 l3 n0 n1 n2 n3 o0 o1 o2 o3 m0 m1 m2 m3 s0 s1 s2 s3 e0 e1 e2 e3 y0 y1 y2 y3 c1 c2 c5 c6 : Int} {ok : Bool} (hc1 : decide (c1 < 0) = false) (hc5 : decide (0 ≤ c5) = true) (hc6 : decide (c6 ≤ 0) = true) (h1 : Says 18 #[.agg #[.int .u64 l0, .int .u64 l1, .int .u64 l2, .int .u64 l3], .agg #[.int .u64 k0, .int .u64 k1, .int .u64 k2, .int .u64 k3]] (.agg #[.int .u64 o0, .int .u64 o1, .int .u64 o2, .int .u64 o3])) (h2 : Says 17 #[.agg #[.int .u64 b0, .int .u64 b1, .int .u64 b2, .int .u64 b3], .agg #[.int .u64 o0, .int .u64 o1, .int .u64 o2, .int .u64 o3]] (.int .i64 c1)) (h3 : Says 17 #[.agg #[.int .u64 n0, .int .u64 n1, .int .u64 n2, .int .u64 n3], .agg #[.int .u64 b0, .int .u64 b1, .int .u64 b2, .int .u64 b3]] (.int .i64 c2)) (h4 : decide (c2 ≤ 0) = false ∨ (decide (c2 ≤ 0) = true ∧ ((∃ t0 t1 t2 t3 u0 u1 u2 u3 p0 p1 p2 p3 v0 v1 v2 v3 c3 : Int, decide (c3 < 0) = false ∧ Says 8 #[.agg #[.int .u64 k0, .int .u64 k1, .int .u64 k2, .int .u64 k3, .int .u64 f0, .int .u64 f1, .int .u64 f2, .int .u64 f3], .agg #[.int .u64 l0, .int .u64 l1, .int .u64 l2, .int .u64 l3], .agg #[.int .u64 n0, .int .u64 n1, .int .u64 n2, .int .u64 n3]] (.tuple #[.agg #[.int .u64 t0, .int .u64 t1, .int .u64 t2, .int .u64 t3, .int .u64 u0, .int .u64 u1, .int .u64 u2, .int .u64 u3], .int .i64 0]) ∧ Says 18 #[.agg #[.int .u64 b0, .int .u64 b1, .int .u64 b2, .int .u64 b3], .agg #[.int .u64 n0, .int .u64 n1, .int .u64 n2, .int .u64 n3]] (.agg #[.int .u64 p0, .int .u64 p1, .int .u64 p2, .int .u64 p3]) ∧ Says 18 #[.agg #[.int .u64 l0, .int .u64 l1, .int .u64 l2, .int .u64 l3], .agg #[.int .u64 t0, .int .u64 t1, .int .u64 t2, .int .u64 t3]] (.agg #[.int .u64 v0, .int .u64 v1, .int .u64 v2, .int .u64 v3]) ∧ Says 17 #[.agg #[.int .u64 p0, .int .u64 p1, .int .u64 p2, .int .u64 p3], .agg #[.int .u64 v0, .int .u64 v1, .int .u64 v2, .int .u64 v3]] (.int .i64 c3)) ∨ Says 8 #[.agg #[.int .u64 k0, .int .u64 k1, .int .u64 k2, .int .u64 k3, .int .u64 f0, .int .u64 f1, .int .u64 f2, .int .u64 f3], .agg #[.int .u64 l0, .int .u64 l1, .int .u64 l2, .int .u64 l3], .agg #[.int .u64 n0, .int .u64 n1, .int .u64 n2, .int .u64 n3]] (.tuple #[.agg #[.int .u64 0, .int .u64 0, .int .u64 0, .int .u64 0, .int .u64 0, .int .u64 0, .int .u64 0, .int .u64 0], .int .i64 2])))) (h7 : Says 16 #[.agg #[.int .u64 b0, .int .u64 b1, .int .u64 b2, .int .u64 b3], .agg #[.int .u64 n0, .int .u64 n1, .int .u64 n2, .int .u64 n3]] (.tuple #[.agg #[.int .u64 m0, .int .u64 m1, .int .u64 m2, .int .u64 m3], .bool ok])) (h8 : ok = false ∨ (ok = true ∧ ∃ a0 a1 a2 a3 g0 g1 g2 g3 r0 r1 r2 r3 c4 : Int, decide (c4 < 0) = false ∧ Says 11 #[.agg #[.int .u64 k0, .int .u64 k1, .int .u64 k2, .int .u64 k3, .int .u64 f0, .int .u64 f1, .int .u64 f2, .int .u64 f3], .agg #[.int .u64 n0, .int .u64 n1, .int .u64 n2, .int .u64 n3]] (.agg #[.int .u64 a0, .int .u64 a1, .int .u64 a2, .int .u64 a3, .int .u64 g0, .int .u64 g1, .int .u64 g2, .int .u64 g3]) ∧ Says 18 #[.agg #[.int .u64 l0, .int .u64 l1, .int .u64 l2, .int .u64 l3], .agg #[.int .u64 a0, .int .u64 a1, .int .u64 a2, .int .u64 a3]] (.agg #[.int .u64 r0, .int .u64 r1, .int .u64 r2, .int .u64 r3]) ∧ Says 17 #[.agg #[.int .u64 m0, .int .u64 m1, .int .u64 m2, .int .u64 m3], .agg #[.int .u64 r0, .int .u64 r1, .int .u64 r2, .int .u64 r3]] (.int .i64 c4))) (h10 : Says 13 #[.agg #[.int .u64 b0, .int .u64 b1, .int .u64 b2, .int .u64 b3], .agg #[.int .u64 l0, .int .u64 l1, .int .u64 l2, .int .u64 l3], .agg #[.int .u64 k0, .int .u64 k1, .int .u64 k2, .int .u64 k3]] (.agg #[.int .u64 s0, .int .u64 s1, .int .u64 s2, .int .u64 s3])) (h11 : Says 19 #[.agg #[.int .u64 n0, .int .u64 n1, .int .u64 n2, .int .u64 n3], .agg #[.int .u64 s0, .int .u64 s1, .int .u64 s2, .int .u64 s3]] (.agg #[.int .u64 e0, .int .u64 e1, .int .u64 e2, .int .u64 e3])) (h12 : Says 18 #[.agg #[.int .u64 b0, .int .u64 b1, .int .u64 b2, .int .u64 b3], .agg #[.int .u64 e0, .int .u64 e1, .int .u64 e2, .int .u64 e3]] (.agg #[.int .u64 y0, .int .u64 y1, .int .u64 y2, .int .u64 y3])) (h13 : Says 17 #[.agg #[.int .u64 y0, .int .u64 y1, .int .u64 y2, .int .u64 y3], .agg #[.int .u64 o0, .int .u64 o1, .int .u64 o2, .int .u64 o3]] (.int .i64 c5)) (h14 : Says 17 #[.agg #[.int .u64 s0, .int .u64 s1, .int .u64 s2, .int .u64 s3], .agg #[.int .u64 b0, .int .u64 b1, .int .u64 b2, .int .u64 b3]] (.int .i64 c6)) (w : World) :
    Calls Try.prog 7 #[.agg #[.int .u64 k0, .int .u64 k1, .int .u64 k2, .int .u64 k3, .int .u64 f0, .int .u64 f1, .int .u64 f2, .int .u64 f3], .agg #[.int .u64 b0, .int .u64 b1, .int .u64 b2, .int .u64 b3], .agg #[.int .u64 l0, .int .u64 l1, .int .u64 l2, .int .u64 l3], .agg #[.int .u64 n0, .int .u64 n1, .int .u64 n2, .int .u64 n3]] w fun e w' => e = .returned (.bool true) ∧ Below w.heap.size w w' := by
  have hpad := pads
  have hfld := field0
  go_enter Try.func7, Try.ntmps7
  go_upto_region 1 with fail
  go_cut [21] from 15 to 21 (fun s21 wx => s21 = .bool false ∧ w.heap.size + 1 + 1 + 1 + 1 ≤ wx.heap.size ∧ Below w.heap.size w wx ∧ wx.heap[w.heap.size]? = some (.cells #[.int .u64 k0, .int .u64 k1, .int .u64 k2, .int .u64 k3, .int .u64 f0, .int .u64 f1, .int .u64 f2, .int .u64 f3] 26 (0, 0)) ∧ wx.heap[w.heap.size + 1]? = some (.cells #[.int .u64 b0, .int .u64 b1, .int .u64 b2, .int .u64 b3] 24 (0, 0)) ∧ wx.heap[w.heap.size + 1 + 1]? = some (.cells #[.int .u64 l0, .int .u64 l1, .int .u64 l2, .int .u64 l3] 24 (0, 0)) ∧ wx.heap[w.heap.size + 1 + 1 + 1]? = some (.cells #[.int .u64 n0, .int .u64 n1, .int .u64 n2, .int .u64 n3] 24 (0, 0)))
  case first =>
    go_region_held2 (fun W => W.cell? ⟨w.heap.size + 1, 0, none⟩ = some (.int .u64 b0) ∧ W.cell? ⟨w.heap.size + 1, 1, none⟩ = some (.int .u64 b1) ∧ W.cell? ⟨w.heap.size + 1, 2, none⟩ = some (.int .u64 b2) ∧ W.cell? ⟨w.heap.size + 1, 3, none⟩ = some (.int .u64 b3) ∧ W.cell? ⟨w.heap.size + 1 + 1, 0, none⟩ = some (.int .u64 l0) ∧ W.cell? ⟨w.heap.size + 1 + 1, 1, none⟩ = some (.int .u64 l1) ∧ W.cell? ⟨w.heap.size + 1 + 1, 2, none⟩ = some (.int .u64 l2) ∧ W.cell? ⟨w.heap.size + 1 + 1, 3, none⟩ = some (.int .u64 l3) ∧ W.cell? ⟨w.heap.size, 0, none⟩ = some (.int .u64 k0) ∧ W.cell? ⟨w.heap.size, 1, none⟩ = some (.int .u64 k1) ∧ W.cell? ⟨w.heap.size, 2, none⟩ = some (.int .u64 k2) ∧ W.cell? ⟨w.heap.size, 3, none⟩ = some (.int .u64 k3)) (go_simp) (first
      | (go_at_call 18; with_reducible refine (h1.at _).mono ?_; rintro e w' ⟨rfl, hb⟩; obtain ⟨m1, g1, d1, hm1, rfl⟩ := pad_of hb; clear hb; (try simp [pad_size] at hm1); have st1_w := sz4 (n := w.heap.size) (m := m1) (by omega))
      | (go_at_call 17; with_reducible refine (h2.at _).mono ?_; rintro e w' ⟨rfl, hb⟩; obtain ⟨m2, g2, d2, hm2, rfl⟩ := pad_of hb; clear hb; (try simp [pad_size] at hm2); have st2_w := sz4 (n := w.heap.size) (m := m2) (by omega)))
    all_goals (go_wp2_with fail; go_meet)
    all_goals refine ⟨by first | rfl | simp [hc1], ?_, ?_, ?_, ?_, ?_, ?_⟩
    all_goals first
      | (exact (by first | omega | (simp [pad_size]; done) | (simp [pad_size]; omega)))
      | (((repeat (first | (with_reducible exact Below.refl _ _) | (with_reducible assumption) | (with_reducible apply bd) | (with_reducible apply ba) | (with_reducible refine bp ?_ (by first | omega | (simp [pad_size]; done) | (simp [pad_size]; omega)) _ _) | (with_reducible refine bs ?_ (by first | omega | (simp [pad_size]; done) | (simp [pad_size]; omega)) _) | (with_reducible refine bt ?_ (by assumption))))); done)
      | (((repeat (first | (with_reducible exact al_at (by simp [pad_size])) | (with_reducible refine Eq.trans (dr_blk _ _) ?_) | (with_reducible refine Eq.trans (al_old (by first | omega | (simp [pad_size]; done) | (simp [pad_size]; omega))) ?_) | (with_reducible refine Eq.trans (pad_block (by first | omega | (simp [pad_size]; done) | (simp [pad_size]; omega)) (by first | omega | (simp [pad_size]; done) | (simp [pad_size]; omega))) ?_) | (with_reducible assumption)))); done)
  case rest =>
    obtain ⟨rfl, hsz, hbw, q0, q1, q2, q3⟩ := hcut
    obtain ⟨cq0, fq0⟩ := cells_of_block q0
    obtain ⟨cq1, fq1⟩ := cells_of_block q1
    obtain ⟨cq2, fq2⟩ := cells_of_block q2
    obtain ⟨cq3, fq3⟩ := cells_of_block q3
    have z0 : w.heap.size < wc.heap.size := by omega
    have z1 : w.heap.size + 1 < wc.heap.size := by omega
    have z2 : w.heap.size + 1 + 1 < wc.heap.size := by omega
    have z3 : w.heap.size + 1 + 1 + 1 < wc.heap.size := by omega
    go_upto_region 3 with fail
    go_cut [26] from 23 to 26 (fun s26 wx => s26 = .bool (decide (c2 ≤ 0)) ∧ w.heap.size + 1 + 1 + 1 + 1 ≤ wx.heap.size ∧ Below w.heap.size w wx ∧ wx.heap[w.heap.size]? = some (.cells #[.int .u64 k0, .int .u64 k1, .int .u64 k2, .int .u64 k3, .int .u64 f0, .int .u64 f1, .int .u64 f2, .int .u64 f3] 26 (0, 0)) ∧ wx.heap[w.heap.size + 1]? = some (.cells #[.int .u64 b0, .int .u64 b1, .int .u64 b2, .int .u64 b3] 24 (0, 0)) ∧ wx.heap[w.heap.size + 1 + 1]? = some (.cells #[.int .u64 l0, .int .u64 l1, .int .u64 l2, .int .u64 l3] 24 (0, 0)) ∧ wx.heap[w.heap.size + 1 + 1 + 1]? = some (.cells #[.int .u64 n0, .int .u64 n1, .int .u64 n2, .int .u64 n3] 24 (0, 0)))
    case first =>
      go_wp2_with (go_at_call 17; with_reducible refine (h3.at _).mono ?_; rintro e w' ⟨rfl, hb⟩; obtain ⟨m3, g3, d3, hm3, rfl⟩ := pad_of hb; clear hb; (try simp [pad_size] at hm3))
      all_goals go_meet
      all_goals refine ⟨by first | rfl | simp, ?_, bt hbw ?_, ?_, ?_, ?_, ?_⟩
      all_goals first
        | (exact (by first | omega | (simp [pad_size]; done) | (simp [pad_size]; omega)))
        | rfl
        | (with_reducible exact al_at (by simp [pad_size]))
        | ((with_reducible refine (Below.block (?_ : Below wc.heap.size wc _) _ z0).trans q0); ((repeat (first | (with_reducible exact Below.refl _ _) | (with_reducible assumption) | (with_reducible apply bd) | (with_reducible apply ba) | (with_reducible refine bp ?_ (by first | omega | (simp [pad_size]; done) | (simp [pad_size]; omega)) _ _) | (with_reducible refine bs ?_ (by first | omega | (simp [pad_size]; done) | (simp [pad_size]; omega)) _) | (with_reducible refine bt ?_ (by assumption))))); done)
        | ((with_reducible refine (Below.block (?_ : Below wc.heap.size wc _) _ z1).trans q1); ((repeat (first | (with_reducible exact Below.refl _ _) | (with_reducible assumption) | (with_reducible apply bd) | (with_reducible apply ba) | (with_reducible refine bp ?_ (by first | omega | (simp [pad_size]; done) | (simp [pad_size]; omega)) _ _) | (with_reducible refine bs ?_ (by first | omega | (simp [pad_size]; done) | (simp [pad_size]; omega)) _) | (with_reducible refine bt ?_ (by assumption))))); done)
        | ((with_reducible refine (Below.block (?_ : Below wc.heap.size wc _) _ z2).trans q2); ((repeat (first | (with_reducible exact Below.refl _ _) | (with_reducible assumption) | (with_reducible apply bd) | (with_reducible apply ba) | (with_reducible refine bp ?_ (by first | omega | (simp [pad_size]; done) | (simp [pad_size]; omega)) _ _) | (with_reducible refine bs ?_ (by first | omega | (simp [pad_size]; done) | (simp [pad_size]; omega)) _) | (with_reducible refine bt ?_ (by assumption))))); done)
        | ((with_reducible refine (Below.block (?_ : Below wc.heap.size wc _) _ z3).trans q3); ((repeat (first | (with_reducible exact Below.refl _ _) | (with_reducible assumption) | (with_reducible apply bd) | (with_reducible apply ba) | (with_reducible refine bp ?_ (by first | omega | (simp [pad_size]; done) | (simp [pad_size]; omega)) _ _) | (with_reducible refine bs ?_ (by first | omega | (simp [pad_size]; done) | (simp [pad_size]; omega)) _) | (with_reducible refine bt ?_ (by assumption))))); done)
        | (((repeat (first | (with_reducible exact Below.refl _ _) | (with_reducible assumption) | (with_reducible apply bd) | (with_reducible apply ba) | (with_reducible refine bp ?_ (by first | omega | (simp [pad_size]; done) | (simp [pad_size]; omega)) _ _) | (with_reducible refine bs ?_ (by first | omega | (simp [pad_size]; done) | (simp [pad_size]; omega)) _) | (with_reducible refine bt ?_ (by assumption))))); done)
        | (((repeat (first | (with_reducible exact al_at (by simp [pad_size])) | (with_reducible refine Eq.trans (dr_blk _ _) ?_) | (with_reducible refine Eq.trans (al_old (by first | omega | (simp [pad_size]; done) | (simp [pad_size]; omega))) ?_) | (with_reducible refine Eq.trans (pad_block (by first | omega | (simp [pad_size]; done) | (simp [pad_size]; omega)) (by first | omega | (simp [pad_size]; done) | (simp [pad_size]; omega))) ?_) | (with_reducible assumption)))); done)
    case rest =>
      clear q0 cq0 fq0 z0 q1 cq1 fq1 z1 q2 cq2 fq2 z2 q3 cq3 fq3 z3 hsz hbw
      obtain ⟨rfl, hsz, hbw, q0, q1, q2, q3⟩ := hcut
      obtain ⟨cq0, fq0⟩ := cells_of_block q0
      obtain ⟨cq1, fq1⟩ := cells_of_block q1
      obtain ⟨cq2, fq2⟩ := cells_of_block q2
      obtain ⟨cq3, fq3⟩ := cells_of_block q3
      have z0 : w.heap.size < wc.heap.size := by omega
      have z1 : w.heap.size + 1 < wc.heap.size := by omega
      have z2 : w.heap.size + 1 + 1 < wc.heap.size := by omega
      have z3 : w.heap.size + 1 + 1 + 1 < wc.heap.size := by omega
      go_upto_if 26 with fail
      go_cut [9, 10] from 26 to 46 (fun s9 s10 wx => w.heap.size + 1 + 1 + 1 + 1 ≤ wx.heap.size ∧ Below w.heap.size w wx ∧ wx.heap[w.heap.size]? = some (.cells #[.int .u64 k0, .int .u64 k1, .int .u64 k2, .int .u64 k3, .int .u64 f0, .int .u64 f1, .int .u64 f2, .int .u64 f3] 26 (0, 0)) ∧ wx.heap[w.heap.size + 1]? = some (.cells #[.int .u64 b0, .int .u64 b1, .int .u64 b2, .int .u64 b3] 24 (0, 0)) ∧ wx.heap[w.heap.size + 1 + 1]? = some (.cells #[.int .u64 l0, .int .u64 l1, .int .u64 l2, .int .u64 l3] 24 (0, 0)) ∧ wx.heap[w.heap.size + 1 + 1 + 1]? = some (.cells #[.int .u64 n0, .int .u64 n1, .int .u64 n2, .int .u64 n3] 24 (0, 0)))
      case first =>
        rcases h4 with hd | ⟨hd, ⟨t0, t1, t2, t3, u0, u1, u2, u3, p0, p1, p2, p3, v0, v1, v2, v3, c3, hc3, h4, h5a, h5b, h5c⟩ | h4⟩
        · rw [hd]
          go_wp2_with fail
          all_goals go_meet
          all_goals exact ⟨hsz, hbw, q0, q1, q2, q3⟩
        · rw [hd]
          go_upto_region 4 with fail
          go_cut [9, 10] from 27 to 33 (fun s9 s10 wx => ∃ B9, s9 = .pointer (some ⟨B9, 0, none⟩) ∧ s10 = .int .i64 0 ∧ B9 < wx.heap.size ∧ w.heap.size + 1 + 1 + 1 + 1 ≤ wx.heap.size ∧ Below w.heap.size w wx ∧ wx.heap[w.heap.size]? = some (.cells #[.int .u64 k0, .int .u64 k1, .int .u64 k2, .int .u64 k3, .int .u64 f0, .int .u64 f1, .int .u64 f2, .int .u64 f3] 26 (0, 0)) ∧ wx.heap[w.heap.size + 1]? = some (.cells #[.int .u64 b0, .int .u64 b1, .int .u64 b2, .int .u64 b3] 24 (0, 0)) ∧ wx.heap[w.heap.size + 1 + 1]? = some (.cells #[.int .u64 l0, .int .u64 l1, .int .u64 l2, .int .u64 l3] 24 (0, 0)) ∧ wx.heap[w.heap.size + 1 + 1 + 1]? = some (.cells #[.int .u64 n0, .int .u64 n1, .int .u64 n2, .int .u64 n3] 24 (0, 0)) ∧ wx.heap[B9]? = some (.cells #[.int .u64 t0, .int .u64 t1, .int .u64 t2, .int .u64 t3, .int .u64 u0, .int .u64 u1, .int .u64 u2, .int .u64 u3] 26 (0, 0)))
          case first =>
            go_wp2_with (go_at_call 8; with_reducible refine (h4.at _).mono ?_; rintro e w' ⟨rfl, hb⟩; obtain ⟨m4, g4, d4, hm4, rfl⟩ := pad_of hb; clear hb; (try simp [pad_size] at hm4))
            all_goals go_meet
            all_goals refine ⟨_, rfl, rfl, ?_, ?_, bt hbw ?_, ?_, ?_, ?_, ?_, ?_⟩
            all_goals first
              | (exact (by first | omega | (simp [pad_size]; done) | (simp [pad_size]; omega)))
              | rfl
              | (with_reducible exact al_at (by simp [pad_size]))
              | ((with_reducible refine (Below.block (?_ : Below wc.heap.size wc _) _ z0).trans q0); ((repeat (first | (with_reducible exact Below.refl _ _) | (with_reducible assumption) | (with_reducible apply bd) | (with_reducible apply ba) | (with_reducible refine bp ?_ (by first | omega | (simp [pad_size]; done) | (simp [pad_size]; omega)) _ _) | (with_reducible refine bs ?_ (by first | omega | (simp [pad_size]; done) | (simp [pad_size]; omega)) _) | (with_reducible refine bt ?_ (by assumption))))); done)
              | ((with_reducible refine (Below.block (?_ : Below wc.heap.size wc _) _ z1).trans q1); ((repeat (first | (with_reducible exact Below.refl _ _) | (with_reducible assumption) | (with_reducible apply bd) | (with_reducible apply ba) | (with_reducible refine bp ?_ (by first | omega | (simp [pad_size]; done) | (simp [pad_size]; omega)) _ _) | (with_reducible refine bs ?_ (by first | omega | (simp [pad_size]; done) | (simp [pad_size]; omega)) _) | (with_reducible refine bt ?_ (by assumption))))); done)
              | ((with_reducible refine (Below.block (?_ : Below wc.heap.size wc _) _ z2).trans q2); ((repeat (first | (with_reducible exact Below.refl _ _) | (with_reducible assumption) | (with_reducible apply bd) | (with_reducible apply ba) | (with_reducible refine bp ?_ (by first | omega | (simp [pad_size]; done) | (simp [pad_size]; omega)) _ _) | (with_reducible refine bs ?_ (by first | omega | (simp [pad_size]; done) | (simp [pad_size]; omega)) _) | (with_reducible refine bt ?_ (by assumption))))); done)
              | ((with_reducible refine (Below.block (?_ : Below wc.heap.size wc _) _ z3).trans q3); ((repeat (first | (with_reducible exact Below.refl _ _) | (with_reducible assumption) | (with_reducible apply bd) | (with_reducible apply ba) | (with_reducible refine bp ?_ (by first | omega | (simp [pad_size]; done) | (simp [pad_size]; omega)) _ _) | (with_reducible refine bs ?_ (by first | omega | (simp [pad_size]; done) | (simp [pad_size]; omega)) _) | (with_reducible refine bt ?_ (by assumption))))); done)
              | (((repeat (first | (with_reducible exact Below.refl _ _) | (with_reducible assumption) | (with_reducible apply bd) | (with_reducible apply ba) | (with_reducible refine bp ?_ (by first | omega | (simp [pad_size]; done) | (simp [pad_size]; omega)) _ _) | (with_reducible refine bs ?_ (by first | omega | (simp [pad_size]; done) | (simp [pad_size]; omega)) _) | (with_reducible refine bt ?_ (by assumption))))); done)
              | (((repeat (first | (with_reducible exact al_at (by simp [pad_size])) | (with_reducible refine Eq.trans (dr_blk _ _) ?_) | (with_reducible refine Eq.trans (al_old (by first | omega | (simp [pad_size]; done) | (simp [pad_size]; omega))) ?_) | (with_reducible refine Eq.trans (pad_block (by first | omega | (simp [pad_size]; done) | (simp [pad_size]; omega)) (by first | omega | (simp [pad_size]; done) | (simp [pad_size]; omega))) ?_) | (with_reducible assumption)))); done)
          case rest =>
            clear q0 cq0 fq0 z0 q1 cq1 fq1 z1 q2 cq2 fq2 z2 q3 cq3 fq3 z3 hsz hbw
            obtain ⟨B9, rfl, rfl, hB9, hsz, hbw, q0, q1, q2, q3, q4⟩ := hcut
            obtain ⟨cq0, fq0⟩ := cells_of_block q0
            obtain ⟨cq1, fq1⟩ := cells_of_block q1
            obtain ⟨cq2, fq2⟩ := cells_of_block q2
            obtain ⟨cq3, fq3⟩ := cells_of_block q3
            obtain ⟨cq4, fq4⟩ := cells_of_block q4
            have z0 : w.heap.size < wc.heap.size := by omega
            have z1 : w.heap.size + 1 < wc.heap.size := by omega
            have z2 : w.heap.size + 1 + 1 < wc.heap.size := by omega
            have z3 : w.heap.size + 1 + 1 + 1 < wc.heap.size := by omega
            have z4 : B9 < wc.heap.size := by omega
            go_upto_region 5 with fail
            have hK : Hid (∀ W, Below wc.heap.size wc W → (W.cell? ⟨w.heap.size + 1, 0, none⟩ = some (.int .u64 b0) ∧ W.cell? ⟨w.heap.size + 1, 1, none⟩ = some (.int .u64 b1) ∧ W.cell? ⟨w.heap.size + 1, 2, none⟩ = some (.int .u64 b2) ∧ W.cell? ⟨w.heap.size + 1, 3, none⟩ = some (.int .u64 b3) ∧ W.cell? ⟨w.heap.size + 1 + 1 + 1, 0, none⟩ = some (.int .u64 n0) ∧ W.cell? ⟨w.heap.size + 1 + 1 + 1, 1, none⟩ = some (.int .u64 n1) ∧ W.cell? ⟨w.heap.size + 1 + 1 + 1, 2, none⟩ = some (.int .u64 n2) ∧ W.cell? ⟨w.heap.size + 1 + 1 + 1, 3, none⟩ = some (.int .u64 n3) ∧ W.cell? ⟨w.heap.size + 1 + 1, 0, none⟩ = some (.int .u64 l0) ∧ W.cell? ⟨w.heap.size + 1 + 1, 1, none⟩ = some (.int .u64 l1) ∧ W.cell? ⟨w.heap.size + 1 + 1, 2, none⟩ = some (.int .u64 l2) ∧ W.cell? ⟨w.heap.size + 1 + 1, 3, none⟩ = some (.int .u64 l3) ∧ W.cell? ⟨B9, 0, none⟩ = some (.int .u64 t0) ∧ W.cell? ⟨B9, 1, none⟩ = some (.int .u64 t1) ∧ W.cell? ⟨B9, 2, none⟩ = some (.int .u64 t2) ∧ W.cell? ⟨B9, 3, none⟩ = some (.int .u64 t3))) := by
              intro W hW
              have r1 := (cells_of_block ((hW.block _ z1).trans q1)).1
              have r2 := (cells_of_block ((hW.block _ z2).trans q2)).1
              have r3 := (cells_of_block ((hW.block _ z3).trans q3)).1
              have r4 := (cells_of_block ((hW.block _ z4).trans q4)).1
              simp [r1, r2, r3, r4]
            clear cq0 fq0 cq1 fq1 cq2 fq2 cq3 fq3 cq4 fq4
            go_region_held2 (fun W => W.cell? ⟨w.heap.size + 1, 0, none⟩ = some (.int .u64 b0) ∧ W.cell? ⟨w.heap.size + 1, 1, none⟩ = some (.int .u64 b1) ∧ W.cell? ⟨w.heap.size + 1, 2, none⟩ = some (.int .u64 b2) ∧ W.cell? ⟨w.heap.size + 1, 3, none⟩ = some (.int .u64 b3) ∧ W.cell? ⟨w.heap.size + 1 + 1 + 1, 0, none⟩ = some (.int .u64 n0) ∧ W.cell? ⟨w.heap.size + 1 + 1 + 1, 1, none⟩ = some (.int .u64 n1) ∧ W.cell? ⟨w.heap.size + 1 + 1 + 1, 2, none⟩ = some (.int .u64 n2) ∧ W.cell? ⟨w.heap.size + 1 + 1 + 1, 3, none⟩ = some (.int .u64 n3) ∧ W.cell? ⟨w.heap.size + 1 + 1, 0, none⟩ = some (.int .u64 l0) ∧ W.cell? ⟨w.heap.size + 1 + 1, 1, none⟩ = some (.int .u64 l1) ∧ W.cell? ⟨w.heap.size + 1 + 1, 2, none⟩ = some (.int .u64 l2) ∧ W.cell? ⟨w.heap.size + 1 + 1, 3, none⟩ = some (.int .u64 l3) ∧ W.cell? ⟨B9, 0, none⟩ = some (.int .u64 t0) ∧ W.cell? ⟨B9, 1, none⟩ = some (.int .u64 t1) ∧ W.cell? ⟨B9, 2, none⟩ = some (.int .u64 t2) ∧ W.cell? ⟨B9, 3, none⟩ = some (.int .u64 t3)) (exact hK.out _ (by (repeat (first | (with_reducible exact Below.refl _ _) | (with_reducible assumption) | (with_reducible apply bd) | (with_reducible apply ba) | (with_reducible refine bp ?_ (by first | omega | (simp [pad_size]; done) | (simp [pad_size]; omega)) _ _) | (with_reducible refine bs ?_ (by first | omega | (simp [pad_size]; done) | (simp [pad_size]; omega)) _) | (with_reducible refine bt ?_ (by assumption)))))) (first
              | (go_at_call 18; with_reducible refine (h5a.at _).mono ?_; rintro e w' ⟨rfl, hb⟩; obtain ⟨m5, g5, d5, hm5, rfl⟩ := pad_of hb; clear hb; (try simp [pad_size] at hm5))
              | (go_at_call 18; with_reducible refine (h5b.at _).mono ?_; rintro e w' ⟨rfl, hb⟩; obtain ⟨m6, g6, d6, hm6, rfl⟩ := pad_of hb; clear hb; (try simp [pad_size] at hm6))
              | (go_at_call 17; with_reducible refine (h5c.at _).mono ?_; rintro e w' ⟨rfl, hb⟩; obtain ⟨m7, g7, d7, hm7, rfl⟩ := pad_of hb; clear hb; (try simp [pad_size] at hm7)))
            all_goals (go_wp2_with fail; go_meet)
            all_goals clear hK
            all_goals refine ⟨?_, bt hbw ?_, ?_, ?_, ?_, ?_⟩
            all_goals first
              | (exact (by first | omega | (simp [pad_size]; done) | (simp [pad_size]; omega)))
              | rfl
              | (with_reducible exact al_at (by simp [pad_size]))
              | ((with_reducible refine (Below.block (?_ : Below wc.heap.size wc _) _ z0).trans q0); ((repeat (first | (with_reducible exact Below.refl _ _) | (with_reducible assumption) | (with_reducible apply bd) | (with_reducible apply ba) | (with_reducible refine bp ?_ (by first | omega | (simp [pad_size]; done) | (simp [pad_size]; omega)) _ _) | (with_reducible refine bs ?_ (by first | omega | (simp [pad_size]; done) | (simp [pad_size]; omega)) _) | (with_reducible refine bt ?_ (by assumption))))); done)
              | ((with_reducible refine (Below.block (?_ : Below wc.heap.size wc _) _ z1).trans q1); ((repeat (first | (with_reducible exact Below.refl _ _) | (with_reducible assumption) | (with_reducible apply bd) | (with_reducible apply ba) | (with_reducible refine bp ?_ (by first | omega | (simp [pad_size]; done) | (simp [pad_size]; omega)) _ _) | (with_reducible refine bs ?_ (by first | omega | (simp [pad_size]; done) | (simp [pad_size]; omega)) _) | (with_reducible refine bt ?_ (by assumption))))); done)
              | ((with_reducible refine (Below.block (?_ : Below wc.heap.size wc _) _ z2).trans q2); ((repeat (first | (with_reducible exact Below.refl _ _) | (with_reducible assumption) | (with_reducible apply bd) | (with_reducible apply ba) | (with_reducible refine bp ?_ (by first | omega | (simp [pad_size]; done) | (simp [pad_size]; omega)) _ _) | (with_reducible refine bs ?_ (by first | omega | (simp [pad_size]; done) | (simp [pad_size]; omega)) _) | (with_reducible refine bt ?_ (by assumption))))); done)
              | ((with_reducible refine (Below.block (?_ : Below wc.heap.size wc _) _ z3).trans q3); ((repeat (first | (with_reducible exact Below.refl _ _) | (with_reducible assumption) | (with_reducible apply bd) | (with_reducible apply ba) | (with_reducible refine bp ?_ (by first | omega | (simp [pad_size]; done) | (simp [pad_size]; omega)) _ _) | (with_reducible refine bs ?_ (by first | omega | (simp [pad_size]; done) | (simp [pad_size]; omega)) _) | (with_reducible refine bt ?_ (by assumption))))); done)
              | (((repeat (first | (with_reducible exact Below.refl _ _) | (with_reducible assumption) | (with_reducible apply bd) | (with_reducible apply ba) | (with_reducible refine bp ?_ (by first | omega | (simp [pad_size]; done) | (simp [pad_size]; omega)) _ _) | (with_reducible refine bs ?_ (by first | omega | (simp [pad_size]; done) | (simp [pad_size]; omega)) _) | (with_reducible refine bt ?_ (by assumption))))); done)
              | (((repeat (first | (with_reducible exact al_at (by simp [pad_size])) | (with_reducible refine Eq.trans (dr_blk _ _) ?_) | (with_reducible refine Eq.trans (al_old (by first | omega | (simp [pad_size]; done) | (simp [pad_size]; omega))) ?_) | (with_reducible refine Eq.trans (pad_block (by first | omega | (simp [pad_size]; done) | (simp [pad_size]; omega)) (by first | omega | (simp [pad_size]; done) | (simp [pad_size]; omega))) ?_) | (with_reducible assumption)))); done)
        · rw [hd]
          go_upto_region 4 with fail
          go_cut [9, 10] from 27 to 33 (fun s9 s10 wx => ∃ B9, s9 = .pointer (some ⟨B9, 0, none⟩) ∧ s10 = .int .i64 2 ∧ B9 < wx.heap.size ∧ w.heap.size + 1 + 1 + 1 + 1 ≤ wx.heap.size ∧ Below w.heap.size w wx ∧ wx.heap[w.heap.size]? = some (.cells #[.int .u64 k0, .int .u64 k1, .int .u64 k2, .int .u64 k3, .int .u64 f0, .int .u64 f1, .int .u64 f2, .int .u64 f3] 26 (0, 0)) ∧ wx.heap[w.heap.size + 1]? = some (.cells #[.int .u64 b0, .int .u64 b1, .int .u64 b2, .int .u64 b3] 24 (0, 0)) ∧ wx.heap[w.heap.size + 1 + 1]? = some (.cells #[.int .u64 l0, .int .u64 l1, .int .u64 l2, .int .u64 l3] 24 (0, 0)) ∧ wx.heap[w.heap.size + 1 + 1 + 1]? = some (.cells #[.int .u64 n0, .int .u64 n1, .int .u64 n2, .int .u64 n3] 24 (0, 0)) ∧ wx.heap[B9]? = some (.cells #[.int .u64 0, .int .u64 0, .int .u64 0, .int .u64 0, .int .u64 0, .int .u64 0, .int .u64 0, .int .u64 0] 26 (0, 0)))
          case first =>
            go_wp2_with (go_at_call 8; with_reducible refine (h4.at _).mono ?_; rintro e w' ⟨rfl, hb⟩; obtain ⟨m4, g4, d4, hm4, rfl⟩ := pad_of hb; clear hb; (try simp [pad_size] at hm4))
            all_goals go_meet
            all_goals refine ⟨_, rfl, rfl, ?_, ?_, bt hbw ?_, ?_, ?_, ?_, ?_, ?_⟩
            all_goals first
              | (exact (by first | omega | (simp [pad_size]; done) | (simp [pad_size]; omega)))
              | rfl
              | (with_reducible exact al_at (by simp [pad_size]))
              | ((with_reducible refine (Below.block (?_ : Below wc.heap.size wc _) _ z0).trans q0); ((repeat (first | (with_reducible exact Below.refl _ _) | (with_reducible assumption) | (with_reducible apply bd) | (with_reducible apply ba) | (with_reducible refine bp ?_ (by first | omega | (simp [pad_size]; done) | (simp [pad_size]; omega)) _ _) | (with_reducible refine bs ?_ (by first | omega | (simp [pad_size]; done) | (simp [pad_size]; omega)) _) | (with_reducible refine bt ?_ (by assumption))))); done)
              | ((with_reducible refine (Below.block (?_ : Below wc.heap.size wc _) _ z1).trans q1); ((repeat (first | (with_reducible exact Below.refl _ _) | (with_reducible assumption) | (with_reducible apply bd) | (with_reducible apply ba) | (with_reducible refine bp ?_ (by first | omega | (simp [pad_size]; done) | (simp [pad_size]; omega)) _ _) | (with_reducible refine bs ?_ (by first | omega | (simp [pad_size]; done) | (simp [pad_size]; omega)) _) | (with_reducible refine bt ?_ (by assumption))))); done)
              | ((with_reducible refine (Below.block (?_ : Below wc.heap.size wc _) _ z2).trans q2); ((repeat (first | (with_reducible exact Below.refl _ _) | (with_reducible assumption) | (with_reducible apply bd) | (with_reducible apply ba) | (with_reducible refine bp ?_ (by first | omega | (simp [pad_size]; done) | (simp [pad_size]; omega)) _ _) | (with_reducible refine bs ?_ (by first | omega | (simp [pad_size]; done) | (simp [pad_size]; omega)) _) | (with_reducible refine bt ?_ (by assumption))))); done)
              | ((with_reducible refine (Below.block (?_ : Below wc.heap.size wc _) _ z3).trans q3); ((repeat (first | (with_reducible exact Below.refl _ _) | (with_reducible assumption) | (with_reducible apply bd) | (with_reducible apply ba) | (with_reducible refine bp ?_ (by first | omega | (simp [pad_size]; done) | (simp [pad_size]; omega)) _ _) | (with_reducible refine bs ?_ (by first | omega | (simp [pad_size]; done) | (simp [pad_size]; omega)) _) | (with_reducible refine bt ?_ (by assumption))))); done)
              | (((repeat (first | (with_reducible exact Below.refl _ _) | (with_reducible assumption) | (with_reducible apply bd) | (with_reducible apply ba) | (with_reducible refine bp ?_ (by first | omega | (simp [pad_size]; done) | (simp [pad_size]; omega)) _ _) | (with_reducible refine bs ?_ (by first | omega | (simp [pad_size]; done) | (simp [pad_size]; omega)) _) | (with_reducible refine bt ?_ (by assumption))))); done)
              | (((repeat (first | (with_reducible exact al_at (by simp [pad_size])) | (with_reducible refine Eq.trans (dr_blk _ _) ?_) | (with_reducible refine Eq.trans (al_old (by first | omega | (simp [pad_size]; done) | (simp [pad_size]; omega))) ?_) | (with_reducible refine Eq.trans (pad_block (by first | omega | (simp [pad_size]; done) | (simp [pad_size]; omega)) (by first | omega | (simp [pad_size]; done) | (simp [pad_size]; omega))) ?_) | (with_reducible assumption)))); done)
          case rest =>
            clear q0 cq0 fq0 z0 q1 cq1 fq1 z1 q2 cq2 fq2 z2 q3 cq3 fq3 z3 hsz hbw
            obtain ⟨B9, rfl, rfl, hB9, hsz, hbw, q0, q1, q2, q3, q4⟩ := hcut
            obtain ⟨cq0, fq0⟩ := cells_of_block q0
            obtain ⟨cq1, fq1⟩ := cells_of_block q1
            obtain ⟨cq2, fq2⟩ := cells_of_block q2
            obtain ⟨cq3, fq3⟩ := cells_of_block q3
            obtain ⟨cq4, fq4⟩ := cells_of_block q4
            have z0 : w.heap.size < wc.heap.size := by omega
            have z1 : w.heap.size + 1 < wc.heap.size := by omega
            have z2 : w.heap.size + 1 + 1 < wc.heap.size := by omega
            have z3 : w.heap.size + 1 + 1 + 1 < wc.heap.size := by omega
            have z4 : B9 < wc.heap.size := by omega
            go_upto_region 5 with fail
            go_quiet (fail)
            all_goals (go_wp2_with fail; go_meet)
            all_goals exact ⟨hsz, bt hbw (below_drewN _), q0, q1, q2, q3⟩
      case rest =>
        clear q0 cq0 fq0 z0 q1 cq1 fq1 z1 q2 cq2 fq2 z2 q3 cq3 fq3 z3 hsz hbw
        obtain ⟨hsz, hbw, q0, q1, q2, q3⟩ := hcut
        obtain ⟨cq0, fq0⟩ := cells_of_block q0
        obtain ⟨cq1, fq1⟩ := cells_of_block q1
        obtain ⟨cq2, fq2⟩ := cells_of_block q2
        obtain ⟨cq3, fq3⟩ := cells_of_block q3
        have z0 : w.heap.size < wc.heap.size := by omega
        have z1 : w.heap.size + 1 < wc.heap.size := by omega
        have z2 : w.heap.size + 1 + 1 < wc.heap.size := by omega
        have z3 : w.heap.size + 1 + 1 + 1 < wc.heap.size := by omega
        go_upto_region 7 with fail
        go_cut [11, 12] from 47 to 52 (fun s11 s12 wx => ∃ B11, s11 = .pointer (some ⟨B11, 0, none⟩) ∧ s12 = .bool ok ∧ B11 < wx.heap.size ∧ w.heap.size + 1 + 1 + 1 + 1 ≤ wx.heap.size ∧ Below w.heap.size w wx ∧ wx.heap[w.heap.size]? = some (.cells #[.int .u64 k0, .int .u64 k1, .int .u64 k2, .int .u64 k3, .int .u64 f0, .int .u64 f1, .int .u64 f2, .int .u64 f3] 26 (0, 0)) ∧ wx.heap[w.heap.size + 1]? = some (.cells #[.int .u64 b0, .int .u64 b1, .int .u64 b2, .int .u64 b3] 24 (0, 0)) ∧ wx.heap[w.heap.size + 1 + 1]? = some (.cells #[.int .u64 l0, .int .u64 l1, .int .u64 l2, .int .u64 l3] 24 (0, 0)) ∧ wx.heap[w.heap.size + 1 + 1 + 1]? = some (.cells #[.int .u64 n0, .int .u64 n1, .int .u64 n2, .int .u64 n3] 24 (0, 0)) ∧ wx.heap[B11]? = some (.cells #[.int .u64 m0, .int .u64 m1, .int .u64 m2, .int .u64 m3] 24 (0, 0)))
        case first =>
          go_wp2_with (go_at_call 16; with_reducible refine (h7.at _).mono ?_; rintro e w' ⟨rfl, hb⟩; obtain ⟨m8, g8, d8, hm8, rfl⟩ := pad_of hb; clear hb; (try simp [pad_size] at hm8))
          all_goals go_meet
          all_goals refine ⟨_, rfl, rfl, ?_, ?_, bt hbw ?_, ?_, ?_, ?_, ?_, ?_⟩
          all_goals first
            | (exact (by first | omega | (simp [pad_size]; done) | (simp [pad_size]; omega)))
            | rfl
            | (with_reducible exact al_at (by simp [pad_size]))
            | ((with_reducible refine (Below.block (?_ : Below wc.heap.size wc _) _ z0).trans q0); ((repeat (first | (with_reducible exact Below.refl _ _) | (with_reducible assumption) | (with_reducible apply bd) | (with_reducible apply ba) | (with_reducible refine bp ?_ (by first | omega | (simp [pad_size]; done) | (simp [pad_size]; omega)) _ _) | (with_reducible refine bs ?_ (by first | omega | (simp [pad_size]; done) | (simp [pad_size]; omega)) _) | (with_reducible refine bt ?_ (by assumption))))); done)
            | ((with_reducible refine (Below.block (?_ : Below wc.heap.size wc _) _ z1).trans q1); ((repeat (first | (with_reducible exact Below.refl _ _) | (with_reducible assumption) | (with_reducible apply bd) | (with_reducible apply ba) | (with_reducible refine bp ?_ (by first | omega | (simp [pad_size]; done) | (simp [pad_size]; omega)) _ _) | (with_reducible refine bs ?_ (by first | omega | (simp [pad_size]; done) | (simp [pad_size]; omega)) _) | (with_reducible refine bt ?_ (by assumption))))); done)
            | ((with_reducible refine (Below.block (?_ : Below wc.heap.size wc _) _ z2).trans q2); ((repeat (first | (with_reducible exact Below.refl _ _) | (with_reducible assumption) | (with_reducible apply bd) | (with_reducible apply ba) | (with_reducible refine bp ?_ (by first | omega | (simp [pad_size]; done) | (simp [pad_size]; omega)) _ _) | (with_reducible refine bs ?_ (by first | omega | (simp [pad_size]; done) | (simp [pad_size]; omega)) _) | (with_reducible refine bt ?_ (by assumption))))); done)
            | ((with_reducible refine (Below.block (?_ : Below wc.heap.size wc _) _ z3).trans q3); ((repeat (first | (with_reducible exact Below.refl _ _) | (with_reducible assumption) | (with_reducible apply bd) | (with_reducible apply ba) | (with_reducible refine bp ?_ (by first | omega | (simp [pad_size]; done) | (simp [pad_size]; omega)) _ _) | (with_reducible refine bs ?_ (by first | omega | (simp [pad_size]; done) | (simp [pad_size]; omega)) _) | (with_reducible refine bt ?_ (by assumption))))); done)
            | (((repeat (first | (with_reducible exact Below.refl _ _) | (with_reducible assumption) | (with_reducible apply bd) | (with_reducible apply ba) | (with_reducible refine bp ?_ (by first | omega | (simp [pad_size]; done) | (simp [pad_size]; omega)) _ _) | (with_reducible refine bs ?_ (by first | omega | (simp [pad_size]; done) | (simp [pad_size]; omega)) _) | (with_reducible refine bt ?_ (by assumption))))); done)
            | (((repeat (first | (with_reducible exact al_at (by simp [pad_size])) | (with_reducible refine Eq.trans (dr_blk _ _) ?_) | (with_reducible refine Eq.trans (al_old (by first | omega | (simp [pad_size]; done) | (simp [pad_size]; omega))) ?_) | (with_reducible refine Eq.trans (pad_block (by first | omega | (simp [pad_size]; done) | (simp [pad_size]; omega)) (by first | omega | (simp [pad_size]; done) | (simp [pad_size]; omega))) ?_) | (with_reducible assumption)))); done)
        case rest =>
          clear q0 cq0 fq0 z0 q1 cq1 fq1 z1 q2 cq2 fq2 z2 q3 cq3 fq3 z3 hsz hbw
          obtain ⟨B11, rfl, rfl, hB11, hsz, hbw, q0, q1, q2, q3, q4⟩ := hcut
          obtain ⟨cq0, fq0⟩ := cells_of_block q0
          obtain ⟨cq1, fq1⟩ := cells_of_block q1
          obtain ⟨cq2, fq2⟩ := cells_of_block q2
          obtain ⟨cq3, fq3⟩ := cells_of_block q3
          obtain ⟨cq4, fq4⟩ := cells_of_block q4
          have z0 : w.heap.size < wc.heap.size := by omega
          have z1 : w.heap.size + 1 < wc.heap.size := by omega
          have z2 : w.heap.size + 1 + 1 < wc.heap.size := by omega
          have z3 : w.heap.size + 1 + 1 + 1 < wc.heap.size := by omega
          have z4 : B11 < wc.heap.size := by omega
          go_upto_region 8 with fail
          go_cut [64] from 53 to 64 (fun s64 wx => s64 = .bool false ∧ w.heap.size + 1 + 1 + 1 + 1 ≤ wx.heap.size ∧ Below w.heap.size w wx ∧ wx.heap[w.heap.size]? = some (.cells #[.int .u64 k0, .int .u64 k1, .int .u64 k2, .int .u64 k3, .int .u64 f0, .int .u64 f1, .int .u64 f2, .int .u64 f3] 26 (0, 0)) ∧ wx.heap[w.heap.size + 1]? = some (.cells #[.int .u64 b0, .int .u64 b1, .int .u64 b2, .int .u64 b3] 24 (0, 0)) ∧ wx.heap[w.heap.size + 1 + 1]? = some (.cells #[.int .u64 l0, .int .u64 l1, .int .u64 l2, .int .u64 l3] 24 (0, 0)) ∧ wx.heap[w.heap.size + 1 + 1 + 1]? = some (.cells #[.int .u64 n0, .int .u64 n1, .int .u64 n2, .int .u64 n3] 24 (0, 0)))
          case first =>
            rcases h8 with rfl | ⟨rfl, ⟨a0, a1, a2, a3, g0, g1, g2, g3, r0, r1, r2, r3, c4, hc4, h8a, h8b, h8c⟩⟩
            · go_quiet (fail)
              all_goals (go_wp2_with fail; go_meet)
              all_goals exact ⟨rfl, hsz, bt hbw (below_drewN _), q0, q1, q2, q3⟩
            · skip
              have hK : Hid (∀ W, Below wc.heap.size wc W → (W.cell? ⟨B11, 0, none⟩ = some (.int .u64 m0) ∧ W.cell? ⟨B11, 1, none⟩ = some (.int .u64 m1) ∧ W.cell? ⟨B11, 2, none⟩ = some (.int .u64 m2) ∧ W.cell? ⟨B11, 3, none⟩ = some (.int .u64 m3) ∧ W.cell? ⟨w.heap.size + 1 + 1, 0, none⟩ = some (.int .u64 l0) ∧ W.cell? ⟨w.heap.size + 1 + 1, 1, none⟩ = some (.int .u64 l1) ∧ W.cell? ⟨w.heap.size + 1 + 1, 2, none⟩ = some (.int .u64 l2) ∧ W.cell? ⟨w.heap.size + 1 + 1, 3, none⟩ = some (.int .u64 l3) ∧ W.cell? ⟨w.heap.size, 0, none⟩ = some (.int .u64 k0) ∧ W.cell? ⟨w.heap.size, 1, none⟩ = some (.int .u64 k1) ∧ W.cell? ⟨w.heap.size, 2, none⟩ = some (.int .u64 k2) ∧ W.cell? ⟨w.heap.size, 3, none⟩ = some (.int .u64 k3) ∧ W.cell? ⟨w.heap.size, 4, none⟩ = some (.int .u64 f0) ∧ W.cell? ⟨w.heap.size, 5, none⟩ = some (.int .u64 f1) ∧ W.cell? ⟨w.heap.size, 6, none⟩ = some (.int .u64 f2) ∧ W.cell? ⟨w.heap.size, 7, none⟩ = some (.int .u64 f3) ∧ W.cell? ⟨w.heap.size + 1 + 1 + 1, 0, none⟩ = some (.int .u64 n0) ∧ W.cell? ⟨w.heap.size + 1 + 1 + 1, 1, none⟩ = some (.int .u64 n1) ∧ W.cell? ⟨w.heap.size + 1 + 1 + 1, 2, none⟩ = some (.int .u64 n2) ∧ W.cell? ⟨w.heap.size + 1 + 1 + 1, 3, none⟩ = some (.int .u64 n3))) := by
                intro W hW
                have r0 := (cells_of_block ((hW.block _ z0).trans q0)).1
                have r2 := (cells_of_block ((hW.block _ z2).trans q2)).1
                have r3 := (cells_of_block ((hW.block _ z3).trans q3)).1
                have r4 := (cells_of_block ((hW.block _ z4).trans q4)).1
                simp [r0, r2, r3, r4]
              clear cq0 fq0 cq1 fq1 cq2 fq2 cq3 fq3 cq4 fq4
              go_region_held2 (fun W => W.cell? ⟨B11, 0, none⟩ = some (.int .u64 m0) ∧ W.cell? ⟨B11, 1, none⟩ = some (.int .u64 m1) ∧ W.cell? ⟨B11, 2, none⟩ = some (.int .u64 m2) ∧ W.cell? ⟨B11, 3, none⟩ = some (.int .u64 m3) ∧ W.cell? ⟨w.heap.size + 1 + 1, 0, none⟩ = some (.int .u64 l0) ∧ W.cell? ⟨w.heap.size + 1 + 1, 1, none⟩ = some (.int .u64 l1) ∧ W.cell? ⟨w.heap.size + 1 + 1, 2, none⟩ = some (.int .u64 l2) ∧ W.cell? ⟨w.heap.size + 1 + 1, 3, none⟩ = some (.int .u64 l3) ∧ W.cell? ⟨w.heap.size, 0, none⟩ = some (.int .u64 k0) ∧ W.cell? ⟨w.heap.size, 1, none⟩ = some (.int .u64 k1) ∧ W.cell? ⟨w.heap.size, 2, none⟩ = some (.int .u64 k2) ∧ W.cell? ⟨w.heap.size, 3, none⟩ = some (.int .u64 k3) ∧ W.cell? ⟨w.heap.size, 4, none⟩ = some (.int .u64 f0) ∧ W.cell? ⟨w.heap.size, 5, none⟩ = some (.int .u64 f1) ∧ W.cell? ⟨w.heap.size, 6, none⟩ = some (.int .u64 f2) ∧ W.cell? ⟨w.heap.size, 7, none⟩ = some (.int .u64 f3) ∧ W.cell? ⟨w.heap.size + 1 + 1 + 1, 0, none⟩ = some (.int .u64 n0) ∧ W.cell? ⟨w.heap.size + 1 + 1 + 1, 1, none⟩ = some (.int .u64 n1) ∧ W.cell? ⟨w.heap.size + 1 + 1 + 1, 2, none⟩ = some (.int .u64 n2) ∧ W.cell? ⟨w.heap.size + 1 + 1 + 1, 3, none⟩ = some (.int .u64 n3)) (exact hK.out _ (by (repeat (first | (with_reducible exact Below.refl _ _) | (with_reducible assumption) | (with_reducible apply bd) | (with_reducible apply ba) | (with_reducible refine bp ?_ (by first | omega | (simp [pad_size]; done) | (simp [pad_size]; omega)) _ _) | (with_reducible refine bs ?_ (by first | omega | (simp [pad_size]; done) | (simp [pad_size]; omega)) _) | (with_reducible refine bt ?_ (by assumption)))))) (first
                | (go_at_call 11; with_reducible refine (h8a.at _).mono ?_; rintro e w' ⟨rfl, hb⟩; obtain ⟨m9, g9, d9, hm9, rfl⟩ := pad_of hb; clear hb; (try simp [pad_size] at hm9))
                | (go_at_call 18; with_reducible refine (h8b.at _).mono ?_; rintro e w' ⟨rfl, hb⟩; obtain ⟨m10, g10, d10, hm10, rfl⟩ := pad_of hb; clear hb; (try simp [pad_size] at hm10))
                | (go_at_call 17; with_reducible refine (h8c.at _).mono ?_; rintro e w' ⟨rfl, hb⟩; obtain ⟨m11, g11, d11, hm11, rfl⟩ := pad_of hb; clear hb; (try simp [pad_size] at hm11)))
              all_goals (go_wp2_with fail; go_meet)
              all_goals clear hK
              all_goals refine ⟨by first | rfl | simp [hc4], ?_, bt hbw ?_, ?_, ?_, ?_, ?_⟩
              all_goals first
                | (exact (by first | omega | (simp [pad_size]; done) | (simp [pad_size]; omega)))
                | rfl
                | (with_reducible exact al_at (by simp [pad_size]))
                | ((with_reducible refine (Below.block (?_ : Below wc.heap.size wc _) _ z0).trans q0); ((repeat (first | (with_reducible exact Below.refl _ _) | (with_reducible assumption) | (with_reducible apply bd) | (with_reducible apply ba) | (with_reducible refine bp ?_ (by first | omega | (simp [pad_size]; done) | (simp [pad_size]; omega)) _ _) | (with_reducible refine bs ?_ (by first | omega | (simp [pad_size]; done) | (simp [pad_size]; omega)) _) | (with_reducible refine bt ?_ (by assumption))))); done)
                | ((with_reducible refine (Below.block (?_ : Below wc.heap.size wc _) _ z1).trans q1); ((repeat (first | (with_reducible exact Below.refl _ _) | (with_reducible assumption) | (with_reducible apply bd) | (with_reducible apply ba) | (with_reducible refine bp ?_ (by first | omega | (simp [pad_size]; done) | (simp [pad_size]; omega)) _ _) | (with_reducible refine bs ?_ (by first | omega | (simp [pad_size]; done) | (simp [pad_size]; omega)) _) | (with_reducible refine bt ?_ (by assumption))))); done)
                | ((with_reducible refine (Below.block (?_ : Below wc.heap.size wc _) _ z2).trans q2); ((repeat (first | (with_reducible exact Below.refl _ _) | (with_reducible assumption) | (with_reducible apply bd) | (with_reducible apply ba) | (with_reducible refine bp ?_ (by first | omega | (simp [pad_size]; done) | (simp [pad_size]; omega)) _ _) | (with_reducible refine bs ?_ (by first | omega | (simp [pad_size]; done) | (simp [pad_size]; omega)) _) | (with_reducible refine bt ?_ (by assumption))))); done)
                | ((with_reducible refine (Below.block (?_ : Below wc.heap.size wc _) _ z3).trans q3); ((repeat (first | (with_reducible exact Below.refl _ _) | (with_reducible assumption) | (with_reducible apply bd) | (with_reducible apply ba) | (with_reducible refine bp ?_ (by first | omega | (simp [pad_size]; done) | (simp [pad_size]; omega)) _ _) | (with_reducible refine bs ?_ (by first | omega | (simp [pad_size]; done) | (simp [pad_size]; omega)) _) | (with_reducible refine bt ?_ (by assumption))))); done)
                | (((repeat (first | (with_reducible exact Below.refl _ _) | (with_reducible assumption) | (with_reducible apply bd) | (with_reducible apply ba) | (with_reducible refine bp ?_ (by first | omega | (simp [pad_size]; done) | (simp [pad_size]; omega)) _ _) | (with_reducible refine bs ?_ (by first | omega | (simp [pad_size]; done) | (simp [pad_size]; omega)) _) | (with_reducible refine bt ?_ (by assumption))))); done)
                | (((repeat (first | (with_reducible exact al_at (by simp [pad_size])) | (with_reducible refine Eq.trans (dr_blk _ _) ?_) | (with_reducible refine Eq.trans (al_old (by first | omega | (simp [pad_size]; done) | (simp [pad_size]; omega))) ?_) | (with_reducible refine Eq.trans (pad_block (by first | omega | (simp [pad_size]; done) | (simp [pad_size]; omega)) (by first | omega | (simp [pad_size]; done) | (simp [pad_size]; omega))) ?_) | (with_reducible assumption)))); done)
          case rest =>
            clear q0 cq0 fq0 z0 q1 cq1 fq1 z1 q2 cq2 fq2 z2 q3 cq3 fq3 z3 q4 cq4 fq4 z4 hsz hbw
            obtain ⟨rfl, hsz, hbw, q0, q1, q2, q3⟩ := hcut
            obtain ⟨cq0, fq0⟩ := cells_of_block q0
            obtain ⟨cq1, fq1⟩ := cells_of_block q1
            obtain ⟨cq2, fq2⟩ := cells_of_block q2
            obtain ⟨cq3, fq3⟩ := cells_of_block q3
            have z0 : w.heap.size < wc.heap.size := by omega
            have z1 : w.heap.size + 1 < wc.heap.size := by omega
            have z2 : w.heap.size + 1 + 1 < wc.heap.size := by omega
            have z3 : w.heap.size + 1 + 1 + 1 < wc.heap.size := by omega
            go_upto_region 10 with fail
            go_cut [13] from 65 to 69 (fun s13 wx => ∃ B13, s13 = .pointer (some ⟨B13, 0, none⟩) ∧ B13 < wx.heap.size ∧ w.heap.size + 1 + 1 + 1 + 1 ≤ wx.heap.size ∧ Below w.heap.size w wx ∧ wx.heap[w.heap.size]? = some (.cells #[.int .u64 k0, .int .u64 k1, .int .u64 k2, .int .u64 k3, .int .u64 f0, .int .u64 f1, .int .u64 f2, .int .u64 f3] 26 (0, 0)) ∧ wx.heap[w.heap.size + 1]? = some (.cells #[.int .u64 b0, .int .u64 b1, .int .u64 b2, .int .u64 b3] 24 (0, 0)) ∧ wx.heap[w.heap.size + 1 + 1]? = some (.cells #[.int .u64 l0, .int .u64 l1, .int .u64 l2, .int .u64 l3] 24 (0, 0)) ∧ wx.heap[w.heap.size + 1 + 1 + 1]? = some (.cells #[.int .u64 n0, .int .u64 n1, .int .u64 n2, .int .u64 n3] 24 (0, 0)) ∧ wx.heap[B13]? = some (.cells #[.int .u64 s0, .int .u64 s1, .int .u64 s2, .int .u64 s3] 24 (0, 0)))
            case first =>
              go_wp2_with (go_at_call 13; with_reducible refine (h10.at _).mono ?_; rintro e w' ⟨rfl, hb⟩; obtain ⟨m12, g12, d12, hm12, rfl⟩ := pad_of hb; clear hb; (try simp [pad_size] at hm12))
              all_goals go_meet
              all_goals refine ⟨_, rfl, ?_, ?_, bt hbw ?_, ?_, ?_, ?_, ?_, ?_⟩
              all_goals first
                | (exact (by first | omega | (simp [pad_size]; done) | (simp [pad_size]; omega)))
                | rfl
                | (with_reducible exact al_at (by simp [pad_size]))
                | ((with_reducible refine (Below.block (?_ : Below wc.heap.size wc _) _ z0).trans q0); ((repeat (first | (with_reducible exact Below.refl _ _) | (with_reducible assumption) | (with_reducible apply bd) | (with_reducible apply ba) | (with_reducible refine bp ?_ (by first | omega | (simp [pad_size]; done) | (simp [pad_size]; omega)) _ _) | (with_reducible refine bs ?_ (by first | omega | (simp [pad_size]; done) | (simp [pad_size]; omega)) _) | (with_reducible refine bt ?_ (by assumption))))); done)
                | ((with_reducible refine (Below.block (?_ : Below wc.heap.size wc _) _ z1).trans q1); ((repeat (first | (with_reducible exact Below.refl _ _) | (with_reducible assumption) | (with_reducible apply bd) | (with_reducible apply ba) | (with_reducible refine bp ?_ (by first | omega | (simp [pad_size]; done) | (simp [pad_size]; omega)) _ _) | (with_reducible refine bs ?_ (by first | omega | (simp [pad_size]; done) | (simp [pad_size]; omega)) _) | (with_reducible refine bt ?_ (by assumption))))); done)
                | ((with_reducible refine (Below.block (?_ : Below wc.heap.size wc _) _ z2).trans q2); ((repeat (first | (with_reducible exact Below.refl _ _) | (with_reducible assumption) | (with_reducible apply bd) | (with_reducible apply ba) | (with_reducible refine bp ?_ (by first | omega | (simp [pad_size]; done) | (simp [pad_size]; omega)) _ _) | (with_reducible refine bs ?_ (by first | omega | (simp [pad_size]; done) | (simp [pad_size]; omega)) _) | (with_reducible refine bt ?_ (by assumption))))); done)
                | ((with_reducible refine (Below.block (?_ : Below wc.heap.size wc _) _ z3).trans q3); ((repeat (first | (with_reducible exact Below.refl _ _) | (with_reducible assumption) | (with_reducible apply bd) | (with_reducible apply ba) | (with_reducible refine bp ?_ (by first | omega | (simp [pad_size]; done) | (simp [pad_size]; omega)) _ _) | (with_reducible refine bs ?_ (by first | omega | (simp [pad_size]; done) | (simp [pad_size]; omega)) _) | (with_reducible refine bt ?_ (by assumption))))); done)
                | (((repeat (first | (with_reducible exact Below.refl _ _) | (with_reducible assumption) | (with_reducible apply bd) | (with_reducible apply ba) | (with_reducible refine bp ?_ (by first | omega | (simp [pad_size]; done) | (simp [pad_size]; omega)) _ _) | (with_reducible refine bs ?_ (by first | omega | (simp [pad_size]; done) | (simp [pad_size]; omega)) _) | (with_reducible refine bt ?_ (by assumption))))); done)
                | (((repeat (first | (with_reducible exact al_at (by simp [pad_size])) | (with_reducible refine Eq.trans (dr_blk _ _) ?_) | (with_reducible refine Eq.trans (al_old (by first | omega | (simp [pad_size]; done) | (simp [pad_size]; omega))) ?_) | (with_reducible refine Eq.trans (pad_block (by first | omega | (simp [pad_size]; done) | (simp [pad_size]; omega)) (by first | omega | (simp [pad_size]; done) | (simp [pad_size]; omega))) ?_) | (with_reducible assumption)))); done)
            case rest =>
              clear q0 cq0 fq0 z0 q1 cq1 fq1 z1 q2 cq2 fq2 z2 q3 cq3 fq3 z3 hsz hbw
              obtain ⟨B13, rfl, hB13, hsz, hbw, q0, q1, q2, q3, q4⟩ := hcut
              obtain ⟨cq0, fq0⟩ := cells_of_block q0
              obtain ⟨cq1, fq1⟩ := cells_of_block q1
              obtain ⟨cq2, fq2⟩ := cells_of_block q2
              obtain ⟨cq3, fq3⟩ := cells_of_block q3
              obtain ⟨cq4, fq4⟩ := cells_of_block q4
              have z0 : w.heap.size < wc.heap.size := by omega
              have z1 : w.heap.size + 1 < wc.heap.size := by omega
              have z2 : w.heap.size + 1 + 1 < wc.heap.size := by omega
              have z3 : w.heap.size + 1 + 1 + 1 < wc.heap.size := by omega
              have z4 : B13 < wc.heap.size := by omega
              go_upto_region 11 with fail
              go_cut [14] from 70 to 74 (fun s14 wx => ∃ B14, s14 = .pointer (some ⟨B14, 0, none⟩) ∧ B13 < wx.heap.size ∧ B14 < wx.heap.size ∧ w.heap.size + 1 + 1 + 1 + 1 ≤ wx.heap.size ∧ Below w.heap.size w wx ∧ wx.heap[w.heap.size]? = some (.cells #[.int .u64 k0, .int .u64 k1, .int .u64 k2, .int .u64 k3, .int .u64 f0, .int .u64 f1, .int .u64 f2, .int .u64 f3] 26 (0, 0)) ∧ wx.heap[w.heap.size + 1]? = some (.cells #[.int .u64 b0, .int .u64 b1, .int .u64 b2, .int .u64 b3] 24 (0, 0)) ∧ wx.heap[w.heap.size + 1 + 1]? = some (.cells #[.int .u64 l0, .int .u64 l1, .int .u64 l2, .int .u64 l3] 24 (0, 0)) ∧ wx.heap[w.heap.size + 1 + 1 + 1]? = some (.cells #[.int .u64 n0, .int .u64 n1, .int .u64 n2, .int .u64 n3] 24 (0, 0)) ∧ wx.heap[B13]? = some (.cells #[.int .u64 s0, .int .u64 s1, .int .u64 s2, .int .u64 s3] 24 (0, 0)) ∧ wx.heap[B14]? = some (.cells #[.int .u64 y0, .int .u64 y1, .int .u64 y2, .int .u64 y3] 24 (0, 0)))
              case first =>
                have hK : Hid (∀ W, Below wc.heap.size wc W → (W.cell? ⟨w.heap.size + 1, 0, none⟩ = some (.int .u64 b0) ∧ W.cell? ⟨w.heap.size + 1, 1, none⟩ = some (.int .u64 b1) ∧ W.cell? ⟨w.heap.size + 1, 2, none⟩ = some (.int .u64 b2) ∧ W.cell? ⟨w.heap.size + 1, 3, none⟩ = some (.int .u64 b3) ∧ W.cell? ⟨w.heap.size + 1 + 1 + 1, 0, none⟩ = some (.int .u64 n0) ∧ W.cell? ⟨w.heap.size + 1 + 1 + 1, 1, none⟩ = some (.int .u64 n1) ∧ W.cell? ⟨w.heap.size + 1 + 1 + 1, 2, none⟩ = some (.int .u64 n2) ∧ W.cell? ⟨w.heap.size + 1 + 1 + 1, 3, none⟩ = some (.int .u64 n3) ∧ W.cell? ⟨B13, 0, none⟩ = some (.int .u64 s0) ∧ W.cell? ⟨B13, 1, none⟩ = some (.int .u64 s1) ∧ W.cell? ⟨B13, 2, none⟩ = some (.int .u64 s2) ∧ W.cell? ⟨B13, 3, none⟩ = some (.int .u64 s3))) := by
                  intro W hW
                  have r1 := (cells_of_block ((hW.block _ z1).trans q1)).1
                  have r3 := (cells_of_block ((hW.block _ z3).trans q3)).1
                  have r4 := (cells_of_block ((hW.block _ z4).trans q4)).1
                  simp [r1, r3, r4]
                clear cq0 fq0 cq1 fq1 cq2 fq2 cq3 fq3 cq4 fq4
                go_region_held2 (fun W => W.cell? ⟨w.heap.size + 1, 0, none⟩ = some (.int .u64 b0) ∧ W.cell? ⟨w.heap.size + 1, 1, none⟩ = some (.int .u64 b1) ∧ W.cell? ⟨w.heap.size + 1, 2, none⟩ = some (.int .u64 b2) ∧ W.cell? ⟨w.heap.size + 1, 3, none⟩ = some (.int .u64 b3) ∧ W.cell? ⟨w.heap.size + 1 + 1 + 1, 0, none⟩ = some (.int .u64 n0) ∧ W.cell? ⟨w.heap.size + 1 + 1 + 1, 1, none⟩ = some (.int .u64 n1) ∧ W.cell? ⟨w.heap.size + 1 + 1 + 1, 2, none⟩ = some (.int .u64 n2) ∧ W.cell? ⟨w.heap.size + 1 + 1 + 1, 3, none⟩ = some (.int .u64 n3) ∧ W.cell? ⟨B13, 0, none⟩ = some (.int .u64 s0) ∧ W.cell? ⟨B13, 1, none⟩ = some (.int .u64 s1) ∧ W.cell? ⟨B13, 2, none⟩ = some (.int .u64 s2) ∧ W.cell? ⟨B13, 3, none⟩ = some (.int .u64 s3)) (exact hK.out _ (by (repeat (first | (with_reducible exact Below.refl _ _) | (with_reducible assumption) | (with_reducible apply bd) | (with_reducible apply ba) | (with_reducible refine bp ?_ (by first | omega | (simp [pad_size]; done) | (simp [pad_size]; omega)) _ _) | (with_reducible refine bs ?_ (by first | omega | (simp [pad_size]; done) | (simp [pad_size]; omega)) _) | (with_reducible refine bt ?_ (by assumption)))))) (first
                  | (go_at_call 19; with_reducible refine (h11.at _).mono ?_; rintro e w' ⟨rfl, hb⟩; obtain ⟨m13, g13, d13, hm13, rfl⟩ := pad_of hb; clear hb; (try simp [pad_size] at hm13); (try have sc13 := sz1 (n := wc.heap.size) (m := m13) (by omega)))
                  | (go_at_call 18; with_reducible refine (h12.at _).mono ?_; rintro e w' ⟨rfl, hb⟩; obtain ⟨m14, g14, d14, hm14, rfl⟩ := pad_of hb; clear hb; (try simp [pad_size] at hm14); (try have sc14 := sz1 (n := wc.heap.size) (m := m14) (by omega)); (try have sd14 := sz1 (n := m13) (m := m14) (by omega))))
                all_goals (go_wp2_with fail; go_meet)
                all_goals (clear hK; (try clear sc13); (try clear sc14); (try clear sd14))
                all_goals refine ⟨_, rfl, ?_, ?_, ?_, bt hbw ?_, ?_, ?_, ?_, ?_, ?_, ?_⟩
                all_goals first
                  | (exact (by first | omega | (simp [pad_size]; done) | (simp [pad_size]; omega)))
                  | rfl
                  | (with_reducible exact al_at (by simp [pad_size]))
                  | ((with_reducible refine (Below.block (?_ : Below wc.heap.size wc _) _ z0).trans q0); ((repeat (first | (with_reducible exact Below.refl _ _) | (with_reducible assumption) | (with_reducible apply bd) | (with_reducible apply ba) | (with_reducible refine bp ?_ (by first | omega | (simp [pad_size]; done) | (simp [pad_size]; omega)) _ _) | (with_reducible refine bs ?_ (by first | omega | (simp [pad_size]; done) | (simp [pad_size]; omega)) _) | (with_reducible refine bt ?_ (by assumption))))); done)
                  | ((with_reducible refine (Below.block (?_ : Below wc.heap.size wc _) _ z1).trans q1); ((repeat (first | (with_reducible exact Below.refl _ _) | (with_reducible assumption) | (with_reducible apply bd) | (with_reducible apply ba) | (with_reducible refine bp ?_ (by first | omega | (simp [pad_size]; done) | (simp [pad_size]; omega)) _ _) | (with_reducible refine bs ?_ (by first | omega | (simp [pad_size]; done) | (simp [pad_size]; omega)) _) | (with_reducible refine bt ?_ (by assumption))))); done)
                  | ((with_reducible refine (Below.block (?_ : Below wc.heap.size wc _) _ z2).trans q2); ((repeat (first | (with_reducible exact Below.refl _ _) | (with_reducible assumption) | (with_reducible apply bd) | (with_reducible apply ba) | (with_reducible refine bp ?_ (by first | omega | (simp [pad_size]; done) | (simp [pad_size]; omega)) _ _) | (with_reducible refine bs ?_ (by first | omega | (simp [pad_size]; done) | (simp [pad_size]; omega)) _) | (with_reducible refine bt ?_ (by assumption))))); done)
                  | ((with_reducible refine (Below.block (?_ : Below wc.heap.size wc _) _ z3).trans q3); ((repeat (first | (with_reducible exact Below.refl _ _) | (with_reducible assumption) | (with_reducible apply bd) | (with_reducible apply ba) | (with_reducible refine bp ?_ (by first | omega | (simp [pad_size]; done) | (simp [pad_size]; omega)) _ _) | (with_reducible refine bs ?_ (by first | omega | (simp [pad_size]; done) | (simp [pad_size]; omega)) _) | (with_reducible refine bt ?_ (by assumption))))); done)
                  | ((with_reducible refine (Below.block (?_ : Below wc.heap.size wc _) _ z4).trans q4); ((repeat (first | (with_reducible exact Below.refl _ _) | (with_reducible assumption) | (with_reducible apply bd) | (with_reducible apply ba) | (with_reducible refine bp ?_ (by first | omega | (simp [pad_size]; done) | (simp [pad_size]; omega)) _ _) | (with_reducible refine bs ?_ (by first | omega | (simp [pad_size]; done) | (simp [pad_size]; omega)) _) | (with_reducible refine bt ?_ (by assumption))))); done)
                  | (((repeat (first | (with_reducible exact Below.refl _ _) | (with_reducible assumption) | (with_reducible apply bd) | (with_reducible apply ba) | (with_reducible refine bp ?_ (by first | omega | (simp [pad_size]; done) | (simp [pad_size]; omega)) _ _) | (with_reducible refine bs ?_ (by first | omega | (simp [pad_size]; done) | (simp [pad_size]; omega)) _) | (with_reducible refine bt ?_ (by assumption))))); done)
                  | (((repeat (first | (with_reducible exact al_at (by simp [pad_size])) | (with_reducible refine Eq.trans (dr_blk _ _) ?_) | (with_reducible refine Eq.trans (al_old (by first | omega | (simp [pad_size]; done) | (simp [pad_size]; omega))) ?_) | (with_reducible refine Eq.trans (pad_block (by first | omega | (simp [pad_size]; done) | (simp [pad_size]; omega)) (by first | omega | (simp [pad_size]; done) | (simp [pad_size]; omega))) ?_) | (with_reducible assumption)))); done)
              case rest =>
                clear q0 cq0 fq0 z0 q1 cq1 fq1 z1 q2 cq2 fq2 z2 q3 cq3 fq3 z3 q4 cq4 fq4 z4 hsz hbw
                obtain ⟨B14, rfl, hB13, hB14, hsz, hbw, q0, q1, q2, q3, q4, q5⟩ := hcut
                obtain ⟨cq0, fq0⟩ := cells_of_block q0
                obtain ⟨cq1, fq1⟩ := cells_of_block q1
                obtain ⟨cq2, fq2⟩ := cells_of_block q2
                obtain ⟨cq3, fq3⟩ := cells_of_block q3
                obtain ⟨cq4, fq4⟩ := cells_of_block q4
                obtain ⟨cq5, fq5⟩ := cells_of_block q5
                have z0 : w.heap.size < wc.heap.size := by omega
                have z1 : w.heap.size + 1 < wc.heap.size := by omega
                have z2 : w.heap.size + 1 + 1 < wc.heap.size := by omega
                have z3 : w.heap.size + 1 + 1 + 1 < wc.heap.size := by omega
                have z4 : B13 < wc.heap.size := by omega
                have z5 : B14 < wc.heap.size := by omega
                go_upto_region 12 with fail
                have hK : Hid (∀ W, Below wc.heap.size wc W → (W.cell? ⟨B14, 0, none⟩ = some (.int .u64 y0) ∧ W.cell? ⟨B14, 1, none⟩ = some (.int .u64 y1) ∧ W.cell? ⟨B14, 2, none⟩ = some (.int .u64 y2) ∧ W.cell? ⟨B14, 3, none⟩ = some (.int .u64 y3) ∧ W.cell? ⟨w.heap.size + 1 + 1, 0, none⟩ = some (.int .u64 l0) ∧ W.cell? ⟨w.heap.size + 1 + 1, 1, none⟩ = some (.int .u64 l1) ∧ W.cell? ⟨w.heap.size + 1 + 1, 2, none⟩ = some (.int .u64 l2) ∧ W.cell? ⟨w.heap.size + 1 + 1, 3, none⟩ = some (.int .u64 l3) ∧ W.cell? ⟨w.heap.size, 0, none⟩ = some (.int .u64 k0) ∧ W.cell? ⟨w.heap.size, 1, none⟩ = some (.int .u64 k1) ∧ W.cell? ⟨w.heap.size, 2, none⟩ = some (.int .u64 k2) ∧ W.cell? ⟨w.heap.size, 3, none⟩ = some (.int .u64 k3) ∧ W.cell? ⟨B13, 0, none⟩ = some (.int .u64 s0) ∧ W.cell? ⟨B13, 1, none⟩ = some (.int .u64 s1) ∧ W.cell? ⟨B13, 2, none⟩ = some (.int .u64 s2) ∧ W.cell? ⟨B13, 3, none⟩ = some (.int .u64 s3) ∧ W.cell? ⟨w.heap.size + 1, 0, none⟩ = some (.int .u64 b0) ∧ W.cell? ⟨w.heap.size + 1, 1, none⟩ = some (.int .u64 b1) ∧ W.cell? ⟨w.heap.size + 1, 2, none⟩ = some (.int .u64 b2) ∧ W.cell? ⟨w.heap.size + 1, 3, none⟩ = some (.int .u64 b3))) := by
                  intro W hW
                  have r0 := (cells_of_block ((hW.block _ z0).trans q0)).1
                  have r1 := (cells_of_block ((hW.block _ z1).trans q1)).1
                  have r2 := (cells_of_block ((hW.block _ z2).trans q2)).1
                  have r4 := (cells_of_block ((hW.block _ z4).trans q4)).1
                  have r5 := (cells_of_block ((hW.block _ z5).trans q5)).1
                  simp [r0, r1, r2, r4, r5]
                clear cq0 fq0 cq1 fq1 cq2 fq2 cq3 fq3 cq4 fq4 cq5 fq5
                go_region_held2 (fun W => W.cell? ⟨B14, 0, none⟩ = some (.int .u64 y0) ∧ W.cell? ⟨B14, 1, none⟩ = some (.int .u64 y1) ∧ W.cell? ⟨B14, 2, none⟩ = some (.int .u64 y2) ∧ W.cell? ⟨B14, 3, none⟩ = some (.int .u64 y3) ∧ W.cell? ⟨w.heap.size + 1 + 1, 0, none⟩ = some (.int .u64 l0) ∧ W.cell? ⟨w.heap.size + 1 + 1, 1, none⟩ = some (.int .u64 l1) ∧ W.cell? ⟨w.heap.size + 1 + 1, 2, none⟩ = some (.int .u64 l2) ∧ W.cell? ⟨w.heap.size + 1 + 1, 3, none⟩ = some (.int .u64 l3) ∧ W.cell? ⟨w.heap.size, 0, none⟩ = some (.int .u64 k0) ∧ W.cell? ⟨w.heap.size, 1, none⟩ = some (.int .u64 k1) ∧ W.cell? ⟨w.heap.size, 2, none⟩ = some (.int .u64 k2) ∧ W.cell? ⟨w.heap.size, 3, none⟩ = some (.int .u64 k3) ∧ W.cell? ⟨B13, 0, none⟩ = some (.int .u64 s0) ∧ W.cell? ⟨B13, 1, none⟩ = some (.int .u64 s1) ∧ W.cell? ⟨B13, 2, none⟩ = some (.int .u64 s2) ∧ W.cell? ⟨B13, 3, none⟩ = some (.int .u64 s3) ∧ W.cell? ⟨w.heap.size + 1, 0, none⟩ = some (.int .u64 b0) ∧ W.cell? ⟨w.heap.size + 1, 1, none⟩ = some (.int .u64 b1) ∧ W.cell? ⟨w.heap.size + 1, 2, none⟩ = some (.int .u64 b2) ∧ W.cell? ⟨w.heap.size + 1, 3, none⟩ = some (.int .u64 b3)) (exact hK.out _ (by (repeat (first | (with_reducible exact Below.refl _ _) | (with_reducible assumption) | (with_reducible apply bd) | (with_reducible apply ba) | (with_reducible refine bp ?_ (by first | omega | (simp [pad_size]; done) | (simp [pad_size]; omega)) _ _) | (with_reducible refine bs ?_ (by first | omega | (simp [pad_size]; done) | (simp [pad_size]; omega)) _) | (with_reducible refine bt ?_ (by assumption)))))) (first
                  | (go_at_call 10; with_reducible refine (says_tracks.at _).mono ?_; rintro e w' ⟨rfl, hb⟩; obtain ⟨m15, g15, d15, hm15, rfl⟩ := pad_of hb; clear hb; (try simp [pad_size] at hm15))
                  | (go_at_call 18; with_reducible refine (h1.at _).mono ?_; rintro e w' ⟨rfl, hb⟩; obtain ⟨m16, g16, d16, hm16, rfl⟩ := pad_of hb; clear hb; (try simp [pad_size] at hm16))
                  | (go_at_call 17; with_reducible refine (h13.at _).mono ?_; rintro e w' ⟨rfl, hb⟩; obtain ⟨m17, g17, d17, hm17, rfl⟩ := pad_of hb; clear hb; (try simp [pad_size] at hm17))
                  | (go_at_call 17; with_reducible refine (h14.at _).mono ?_; rintro e w' ⟨rfl, hb⟩; obtain ⟨m18, g18, d18, hm18, rfl⟩ := pad_of hb; clear hb; (try simp [pad_size] at hm18)))
                all_goals clear hK
                all_goals go_wp2
                all_goals go_ret
                all_goals exact ⟨rfl, bt hbw (by (repeat (first | (with_reducible exact Below.refl _ _) | (with_reducible assumption) | (with_reducible apply bd) | (with_reducible apply ba) | (with_reducible refine bp ?_ (by first | omega | (simp [pad_size]; done) | (simp [pad_size]; omega)) _ _) | (with_reducible refine bs ?_ (by first | omega | (simp [pad_size]; done) | (simp [pad_size]; omega)) _) | (with_reducible refine bt ?_ (by assumption)))))⟩

end Go.Proofs.Ytpddeihghjjmfaa
