
/- For every four numbers jointurelaw08.ShareSplits returns true and writes nothing that was there: shares in two parts are worth no more than all at once, and at most one less. No condition. -/
import Derived.Test.YtligkenemocdbaaSH3
set_option linter.unusedSimpArgs false
set_option linter.unusedVariables false
namespace Go.Proofs.Ytligkenemocdbaa
open Go.ChangeShapes Go.WideShapes Go.ChangeAt Go.RowKit

theorem szw {b n m : Nat} (h : b < n) (k : n ≤ m) : b < m ∧ ¬ b = m ∧ ¬ m = b := by omega
theorem szp {n m : Nat} (h : n + 1 ≤ m) : n < m + 1 ∧ ¬ n = m + 1 ∧ ¬ m + 1 = n ∧ n < m + 1 + 1 := by omega
set_option maxRecDepth 100000 in
set_option maxHeartbeats 4000000 in
theorem shareSplits_no {x0 x1 x2 x3 y0 y1 y2 y3 z0 z1 z2 z3 u0 u1 u2 u3 r0 r1 r2 r3 : Int} (h1 : Says 21 #[.agg #[.int .u64 z0, .int .u64 z1, .int .u64 z2, .int .u64 z3], .agg #[.int .u64 u0, .int .u64 u1, .int .u64 u2, .int .u64 u3]] (.tuple #[.agg #[.int .u64 r0, .int .u64 r1, .int .u64 r2, .int .u64 r3], .bool false])) (w : World) :
    Calls Try.prog 7 #[.agg #[.int .u64 x0, .int .u64 x1, .int .u64 x2, .int .u64 x3], .agg #[.int .u64 y0, .int .u64 y1, .int .u64 y2, .int .u64 y3], .agg #[.int .u64 z0, .int .u64 z1, .int .u64 z2, .int .u64 z3], .agg #[.int .u64 u0, .int .u64 u1, .int .u64 u2, .int .u64 u3]] w fun e w' => e = .returned (.bool true) ∧ Below w.heap.size w w' := by
  have hpad := pads
  have heq := eq_num
  have hes := eq4_self
  go_enter Try.func7, Try.ntmps7
  go_wp2_with (first
    | (go_at_call 21; with_reducible refine (h1.at _).mono ?_; rintro e w' ⟨rfl, hb⟩; obtain ⟨m1, g1, d1, hm1, rfl⟩ := pad_of hb; clear hb; (try simp [pad_size] at hm1); have st1_w := sz4 (n := w.heap.size) (m := m1) (by omega))
    | (go_at_call 10; with_reducible refine (says_worths.at _).mono ?_; rintro e w' ⟨rfl, hb⟩; obtain ⟨m2, g2, d2, hm2, rfl⟩ := pad_of hb; clear hb; (try simp [pad_size] at hm2); have st2_w := sz4 (n := w.heap.size) (m := m2) (by omega); have st2_1 := sz1 (n := m1) (m := m2) (by omega)))
  all_goals go_ret
  all_goals exact ⟨rfl, by (repeat (first | (with_reducible exact Below.refl _ _) | (with_reducible assumption) | (with_reducible apply bd) | (with_reducible apply ba) | (with_reducible refine bp ?_ (by first | omega | (simp [pad_size]; done) | (simp [pad_size]; omega)) _ _) | (with_reducible refine bs ?_ (by first | omega | (simp [pad_size]; done) | (simp [pad_size]; omega)) _) | (with_reducible refine bt ?_ (by assumption))))⟩
set_option maxRecDepth 100000 in
set_option maxHeartbeats 4000000 in
theorem shareSplits_gt {x0 x1 x2 x3 y0 y1 y2 y3 z0 z1 z2 z3 u0 u1 u2 u3 r0 r1 r2 r3 c : Int} (h1 : Says 21 #[.agg #[.int .u64 z0, .int .u64 z1, .int .u64 z2, .int .u64 z3], .agg #[.int .u64 u0, .int .u64 u1, .int .u64 u2, .int .u64 u3]] (.tuple #[.agg #[.int .u64 r0, .int .u64 r1, .int .u64 r2, .int .u64 r3], .bool true])) (h2 : Says 18 #[.agg #[.int .u64 r0, .int .u64 r1, .int .u64 r2, .int .u64 r3], .agg #[.int .u64 y0, .int .u64 y1, .int .u64 y2, .int .u64 y3]] (.int .i64 c)) (hc : decide (0 < c) = true) (w : World) :
    Calls Try.prog 7 #[.agg #[.int .u64 x0, .int .u64 x1, .int .u64 x2, .int .u64 x3], .agg #[.int .u64 y0, .int .u64 y1, .int .u64 y2, .int .u64 y3], .agg #[.int .u64 z0, .int .u64 z1, .int .u64 z2, .int .u64 z3], .agg #[.int .u64 u0, .int .u64 u1, .int .u64 u2, .int .u64 u3]] w fun e w' => e = .returned (.bool true) ∧ Below w.heap.size w w' := by
  have hpad := pads
  have heq := eq_num
  have hes := eq4_self
  go_enter Try.func7, Try.ntmps7
  go_wp2_with (first
    | (go_at_call 21; with_reducible refine (h1.at _).mono ?_; rintro e w' ⟨rfl, hb⟩; obtain ⟨m1, g1, d1, hm1, rfl⟩ := pad_of hb; clear hb; (try simp [pad_size] at hm1); have st1_w := sz4 (n := w.heap.size) (m := m1) (by omega))
    | (go_at_call 18; with_reducible refine (h2.at _).mono ?_; rintro e w' ⟨rfl, hb⟩; obtain ⟨m2, g2, d2, hm2, rfl⟩ := pad_of hb; clear hb; (try simp [pad_size] at hm2); have st2_w := sz4 (n := w.heap.size) (m := m2) (by omega); have st2_1 := sz1 (n := m1) (m := m2) (by omega))
    | (go_at_call 10; with_reducible refine (says_worths.at _).mono ?_; rintro e w' ⟨rfl, hb⟩; obtain ⟨m3, g3, d3, hm3, rfl⟩ := pad_of hb; clear hb; (try simp [pad_size] at hm3); have st3_w := sz4 (n := w.heap.size) (m := m3) (by omega); have st3_1 := sz1 (n := m1) (m := m3) (by omega)))
  all_goals go_ret
  all_goals exact ⟨rfl, by (repeat (first | (with_reducible exact Below.refl _ _) | (with_reducible assumption) | (with_reducible apply bd) | (with_reducible apply ba) | (with_reducible refine bp ?_ (by first | omega | (simp [pad_size]; done) | (simp [pad_size]; omega)) _ _) | (with_reducible refine bs ?_ (by first | omega | (simp [pad_size]; done) | (simp [pad_size]; omega)) _) | (with_reducible refine bt ?_ (by assumption))))⟩
set_option maxRecDepth 100000 in
set_option maxHeartbeats 4000000 in
theorem shareSplits_w {x0 x1 x2 x3 y0 y1 y2 y3 z0 z1 z2 z3 u0 u1 u2 u3 r0 r1 r2 r3 a0 a1 a2 a3 b0 b1 b2 b3 s0 s1 s2 s3 t0 t1 t2 t3 p0 p1 p2 p3 c d f : Int} (h1 : Says 21 #[.agg #[.int .u64 z0, .int .u64 z1, .int .u64 z2, .int .u64 z3], .agg #[.int .u64 u0, .int .u64 u1, .int .u64 u2, .int .u64 u3]] (.tuple #[.agg #[.int .u64 r0, .int .u64 r1, .int .u64 r2, .int .u64 r3], .bool true])) (h2 : Says 18 #[.agg #[.int .u64 r0, .int .u64 r1, .int .u64 r2, .int .u64 r3], .agg #[.int .u64 y0, .int .u64 y1, .int .u64 y2, .int .u64 y3]] (.int .i64 c)) (hc : decide (0 < c) = false) (h3 : Says 11 #[.agg #[.int .u64 x0, .int .u64 x1, .int .u64 x2, .int .u64 x3], .agg #[.int .u64 y0, .int .u64 y1, .int .u64 y2, .int .u64 y3], .agg #[.int .u64 z0, .int .u64 z1, .int .u64 z2, .int .u64 z3]] (.agg #[.int .u64 a0, .int .u64 a1, .int .u64 a2, .int .u64 a3])) (h4 : Says 11 #[.agg #[.int .u64 x0, .int .u64 x1, .int .u64 x2, .int .u64 x3], .agg #[.int .u64 y0, .int .u64 y1, .int .u64 y2, .int .u64 y3], .agg #[.int .u64 u0, .int .u64 u1, .int .u64 u2, .int .u64 u3]] (.agg #[.int .u64 b0, .int .u64 b1, .int .u64 b2, .int .u64 b3])) (h5 : Says 21 #[.agg #[.int .u64 a0, .int .u64 a1, .int .u64 a2, .int .u64 a3], .agg #[.int .u64 b0, .int .u64 b1, .int .u64 b2, .int .u64 b3]] (.tuple #[.agg #[.int .u64 s0, .int .u64 s1, .int .u64 s2, .int .u64 s3], .bool true])) (h6 : Says 11 #[.agg #[.int .u64 x0, .int .u64 x1, .int .u64 x2, .int .u64 x3], .agg #[.int .u64 y0, .int .u64 y1, .int .u64 y2, .int .u64 y3], .agg #[.int .u64 r0, .int .u64 r1, .int .u64 r2, .int .u64 r3]] (.agg #[.int .u64 t0, .int .u64 t1, .int .u64 t2, .int .u64 t3])) (h7 : Says 21 #[.agg #[.int .u64 s0, .int .u64 s1, .int .u64 s2, .int .u64 s3], .agg #[.int .u64 1, .int .u64 0, .int .u64 0, .int .u64 0]] (.tuple #[.agg #[.int .u64 p0, .int .u64 p1, .int .u64 p2, .int .u64 p3], .bool true])) (h8 : Says 18 #[.agg #[.int .u64 s0, .int .u64 s1, .int .u64 s2, .int .u64 s3], .agg #[.int .u64 t0, .int .u64 t1, .int .u64 t2, .int .u64 t3]] (.int .i64 d)) (hd : decide (d ≤ 0) = true) (h9 : Says 18 #[.agg #[.int .u64 t0, .int .u64 t1, .int .u64 t2, .int .u64 t3], .agg #[.int .u64 p0, .int .u64 p1, .int .u64 p2, .int .u64 p3]] (.int .i64 f)) (hf : decide (f ≤ 0) = true) (w : World) :
    Calls Try.prog 7 #[.agg #[.int .u64 x0, .int .u64 x1, .int .u64 x2, .int .u64 x3], .agg #[.int .u64 y0, .int .u64 y1, .int .u64 y2, .int .u64 y3], .agg #[.int .u64 z0, .int .u64 z1, .int .u64 z2, .int .u64 z3], .agg #[.int .u64 u0, .int .u64 u1, .int .u64 u2, .int .u64 u3]] w fun e w' => e = .returned (.bool true) ∧ Below w.heap.size w w' := by
  have hpad := pads
  have heq := eq_num
  have hes := eq4_self
  go_enter Try.func7, Try.ntmps7
  go_upto_region 1 with fail
  go_cut [9, 10] from 18 to 24 (fun s9 s10 wx => ∃ B9 : Nat, s9 = .pointer (some ⟨B9, 0, none⟩) ∧ s10 = .bool true ∧ w.heap.size + 4 ≤ wx.heap.size ∧ B9 < wx.heap.size ∧ w.heap.size + 4 ≤ B9 ∧ Below w.heap.size w wx ∧ wx.heap[w.heap.size]? = some (.cells #[.int .u64 x0, .int .u64 x1, .int .u64 x2, .int .u64 x3] 24 (0, 0)) ∧ wx.heap[w.heap.size + 1]? = some (.cells #[.int .u64 y0, .int .u64 y1, .int .u64 y2, .int .u64 y3] 24 (0, 0)) ∧ wx.heap[w.heap.size + 1 + 1]? = some (.cells #[.int .u64 z0, .int .u64 z1, .int .u64 z2, .int .u64 z3] 24 (0, 0)) ∧ wx.heap[w.heap.size + 1 + 1 + 1]? = some (.cells #[.int .u64 u0, .int .u64 u1, .int .u64 u2, .int .u64 u3] 24 (0, 0)) ∧ wx.heap[B9]? = some (.cells #[.int .u64 r0, .int .u64 r1, .int .u64 r2, .int .u64 r3] 24 (0, 0)))
  case first =>
    go_wp2_with (first
  | (go_at_call 21; with_reducible refine (h1.at _).mono ?_; rintro e w' ⟨rfl, hb⟩; obtain ⟨m1, g1, d1, hm1, rfl⟩ := pad_of hb; clear hb; (try simp [pad_size] at hm1); have st1_w := sz4 (n := w.heap.size) (m := m1) (by omega)))
    all_goals go_meet
    all_goals refine ⟨_, by first | rfl | (simp; done) | go_simp, by first | rfl | (simp; done) | go_simp, ?_, ?_, ?_, ?_, ?_, ?_, ?_, ?_, ?_⟩
    all_goals first
    | (exact (by first | omega | (simp [pad_size]; done) | (simp [pad_size]; omega)))
    | (((repeat (first | (with_reducible exact Below.refl _ _) | (with_reducible assumption) | (with_reducible apply bd) | (with_reducible apply ba) | (with_reducible refine bp ?_ (by first | omega | (simp [pad_size]; done) | (simp [pad_size]; omega)) _ _) | (with_reducible refine bs ?_ (by first | omega | (simp [pad_size]; done) | (simp [pad_size]; omega)) _) | (with_reducible refine bt ?_ (by assumption))))); done)
    | (((repeat (first | (with_reducible exact al_at (by simp [pad_size])) | (with_reducible refine Eq.trans (dr_blk _ _) ?_) | (with_reducible refine Eq.trans (al_old (by first | omega | (simp [pad_size]; done) | (simp [pad_size]; omega))) ?_) | (with_reducible refine Eq.trans (pad_block (by first | omega | (simp [pad_size]; done) | (simp [pad_size]; omega)) (by first | omega | (simp [pad_size]; done) | (simp [pad_size]; omega))) ?_) | (with_reducible assumption)))); done)
  case rest =>
    obtain ⟨B9, rfl, rfl, hsz, lx_B9, lb_B9, hbw, q0, q1, q2, q3, q4⟩ := hcut
    obtain ⟨cq0, fq0⟩ := cells_of_block q0
    have lt0 : w.heap.size < wc.heap.size := by omega
    obtain ⟨cq1, fq1⟩ := cells_of_block q1
    have lt1 : w.heap.size + 1 < wc.heap.size := by omega
    obtain ⟨cq2, fq2⟩ := cells_of_block q2
    have lt2 : w.heap.size + 1 + 1 < wc.heap.size := by omega
    obtain ⟨cq3, fq3⟩ := cells_of_block q3
    have lt3 : w.heap.size + 1 + 1 + 1 < wc.heap.size := by omega
    obtain ⟨cq4, fq4⟩ := cells_of_block q4
    have lt4 : B9 < wc.heap.size := by omega
    go_upto_region 4 with (first
    | (go_at_call 18; with_reducible refine (h2.at _).mono ?_; rintro e w' ⟨rfl, hb⟩; obtain ⟨m2, g2, d2, hm2, rfl⟩ := pad_of hb; clear hb; (try simp [pad_size] at hm2); have sz2_0 := szw lt0 (show wc.heap.size ≤ m2 by omega); have sz2_1 := szw lt1 (show wc.heap.size ≤ m2 by omega); have sz2_2 := szw lt2 (show wc.heap.size ≤ m2 by omega); have sz2_3 := szw lt3 (show wc.heap.size ≤ m2 by omega); have sz2_4 := szw lt4 (show wc.heap.size ≤ m2 by omega)))
    have hK : Hid (∀ W, Below wc.heap.size wc W → (W.cell? ⟨w.heap.size, 0, none⟩ = some (.int .u64 x0) ∧ W.cell? ⟨w.heap.size, 1, none⟩ = some (.int .u64 x1) ∧ W.cell? ⟨w.heap.size, 2, none⟩ = some (.int .u64 x2) ∧ W.cell? ⟨w.heap.size, 3, none⟩ = some (.int .u64 x3) ∧ W.cell? ⟨w.heap.size + 1, 0, none⟩ = some (.int .u64 y0) ∧ W.cell? ⟨w.heap.size + 1, 1, none⟩ = some (.int .u64 y1) ∧ W.cell? ⟨w.heap.size + 1, 2, none⟩ = some (.int .u64 y2) ∧ W.cell? ⟨w.heap.size + 1, 3, none⟩ = some (.int .u64 y3) ∧ W.cell? ⟨w.heap.size + 1 + 1, 0, none⟩ = some (.int .u64 z0) ∧ W.cell? ⟨w.heap.size + 1 + 1, 1, none⟩ = some (.int .u64 z1) ∧ W.cell? ⟨w.heap.size + 1 + 1, 2, none⟩ = some (.int .u64 z2) ∧ W.cell? ⟨w.heap.size + 1 + 1, 3, none⟩ = some (.int .u64 z3) ∧ W.cell? ⟨w.heap.size + 1 + 1 + 1, 0, none⟩ = some (.int .u64 u0) ∧ W.cell? ⟨w.heap.size + 1 + 1 + 1, 1, none⟩ = some (.int .u64 u1) ∧ W.cell? ⟨w.heap.size + 1 + 1 + 1, 2, none⟩ = some (.int .u64 u2) ∧ W.cell? ⟨w.heap.size + 1 + 1 + 1, 3, none⟩ = some (.int .u64 u3))) := by
      intro W hW
      have r0 := (cells_of_block ((hW.block _ lt0).trans q0)).1
      have r1 := (cells_of_block ((hW.block _ lt1).trans q1)).1
      have r2 := (cells_of_block ((hW.block _ lt2).trans q2)).1
      have r3 := (cells_of_block ((hW.block _ lt3).trans q3)).1
      simp [r0, r1, r2, r3]
    go_cut [11, 12] from 33 to 41 (fun s11 s12 wx => ∃ B11 B12 : Nat, s11 = .pointer (some ⟨B11, 0, none⟩) ∧ s12 = .pointer (some ⟨B12, 0, none⟩) ∧ w.heap.size + 4 ≤ wx.heap.size ∧ B11 < wx.heap.size ∧ B12 < wx.heap.size ∧ B9 < wx.heap.size ∧ w.heap.size + 4 ≤ B11 ∧ w.heap.size + 4 ≤ B12 ∧ Below w.heap.size w wx ∧ wx.heap[w.heap.size]? = some (.cells #[.int .u64 x0, .int .u64 x1, .int .u64 x2, .int .u64 x3] 24 (0, 0)) ∧ wx.heap[w.heap.size + 1]? = some (.cells #[.int .u64 y0, .int .u64 y1, .int .u64 y2, .int .u64 y3] 24 (0, 0)) ∧ wx.heap[B9]? = some (.cells #[.int .u64 r0, .int .u64 r1, .int .u64 r2, .int .u64 r3] 24 (0, 0)) ∧ wx.heap[B11]? = some (.cells #[.int .u64 a0, .int .u64 a1, .int .u64 a2, .int .u64 a3] 24 (0, 0)) ∧ wx.heap[B12]? = some (.cells #[.int .u64 b0, .int .u64 b1, .int .u64 b2, .int .u64 b3] 24 (0, 0)))
    case first =>
      go_region_held2 (fun W => W.cell? ⟨w.heap.size, 0, none⟩ = some (.int .u64 x0) ∧ W.cell? ⟨w.heap.size, 1, none⟩ = some (.int .u64 x1) ∧ W.cell? ⟨w.heap.size, 2, none⟩ = some (.int .u64 x2) ∧ W.cell? ⟨w.heap.size, 3, none⟩ = some (.int .u64 x3) ∧ W.cell? ⟨w.heap.size + 1, 0, none⟩ = some (.int .u64 y0) ∧ W.cell? ⟨w.heap.size + 1, 1, none⟩ = some (.int .u64 y1) ∧ W.cell? ⟨w.heap.size + 1, 2, none⟩ = some (.int .u64 y2) ∧ W.cell? ⟨w.heap.size + 1, 3, none⟩ = some (.int .u64 y3) ∧ W.cell? ⟨w.heap.size + 1 + 1, 0, none⟩ = some (.int .u64 z0) ∧ W.cell? ⟨w.heap.size + 1 + 1, 1, none⟩ = some (.int .u64 z1) ∧ W.cell? ⟨w.heap.size + 1 + 1, 2, none⟩ = some (.int .u64 z2) ∧ W.cell? ⟨w.heap.size + 1 + 1, 3, none⟩ = some (.int .u64 z3) ∧ W.cell? ⟨w.heap.size + 1 + 1 + 1, 0, none⟩ = some (.int .u64 u0) ∧ W.cell? ⟨w.heap.size + 1 + 1 + 1, 1, none⟩ = some (.int .u64 u1) ∧ W.cell? ⟨w.heap.size + 1 + 1 + 1, 2, none⟩ = some (.int .u64 u2) ∧ W.cell? ⟨w.heap.size + 1 + 1 + 1, 3, none⟩ = some (.int .u64 u3)) (exact hK.out _ (by (repeat (first | (with_reducible exact Below.refl _ _) | (with_reducible assumption) | (with_reducible apply bd) | (with_reducible apply ba) | (with_reducible refine bp ?_ (by first | omega | (simp [pad_size]; done) | (simp [pad_size]; omega)) _ _) | (with_reducible refine bs ?_ (by first | omega | (simp [pad_size]; done) | (simp [pad_size]; omega)) _) | (with_reducible refine bt ?_ (by assumption)))))) (first
      | (go_at_call 11; with_reducible refine (h3.at _).mono ?_; rintro e w' ⟨rfl, hb⟩; obtain ⟨m3, g3, d3, hm3, rfl⟩ := pad_of hb; clear hb; (try simp [pad_size] at hm3); have sz3_0 := szw lt0 (show wc.heap.size ≤ m3 by omega); have su3_0 := szp (Nat.succ_le_of_lt sz3_0.1); have sz3_1 := szw lt1 (show wc.heap.size ≤ m3 by omega); have su3_1 := szp (Nat.succ_le_of_lt sz3_1.1); have sz3_2 := szw lt2 (show wc.heap.size ≤ m3 by omega); have su3_2 := szp (Nat.succ_le_of_lt sz3_2.1); have sz3_3 := szw lt3 (show wc.heap.size ≤ m3 by omega); have su3_3 := szp (Nat.succ_le_of_lt sz3_3.1); have sz3_4 := szw lt4 (show wc.heap.size ≤ m3 by omega); have su3_4 := szp (Nat.succ_le_of_lt sz3_4.1); (try have sy3_m2 := sz1 (n := m2) (m := m3) (by omega)); (try have sx3_m2 := sz2 (n := m2) (m := m3) (by omega)); (try have sy3_m4 := sz1 (n := m4) (m := m3) (by omega)); (try have sx3_m4 := sz2 (n := m4) (m := m3) (by omega)))
      | (go_at_call 11; with_reducible refine (h4.at _).mono ?_; rintro e w' ⟨rfl, hb⟩; obtain ⟨m4, g4, d4, hm4, rfl⟩ := pad_of hb; clear hb; (try simp [pad_size] at hm4); have sz4_0 := szw lt0 (show wc.heap.size ≤ m4 by omega); have su4_0 := szp (Nat.succ_le_of_lt sz4_0.1); have sz4_1 := szw lt1 (show wc.heap.size ≤ m4 by omega); have su4_1 := szp (Nat.succ_le_of_lt sz4_1.1); have sz4_2 := szw lt2 (show wc.heap.size ≤ m4 by omega); have su4_2 := szp (Nat.succ_le_of_lt sz4_2.1); have sz4_3 := szw lt3 (show wc.heap.size ≤ m4 by omega); have su4_3 := szp (Nat.succ_le_of_lt sz4_3.1); have sz4_4 := szw lt4 (show wc.heap.size ≤ m4 by omega); have su4_4 := szp (Nat.succ_le_of_lt sz4_4.1); (try have sy4_m2 := sz1 (n := m2) (m := m4) (by omega)); (try have sx4_m2 := sz2 (n := m2) (m := m4) (by omega)); (try have sy4_m3 := sz1 (n := m3) (m := m4) (by omega)); (try have sx4_m3 := sz2 (n := m3) (m := m4) (by omega))))
      all_goals (go_wp2_with fail; go_meet)
      all_goals refine ⟨_, _, by first | rfl | (simp; done) | go_simp, by first | rfl | (simp; done) | go_simp, ?_, ?_, ?_, ?_, ?_, ?_, ?_, ?_, ?_, ?_, ?_, ?_⟩
      all_goals first
      | (exact (by first | omega | (simp [pad_size]; done) | (simp [pad_size]; omega)))
      | (exact bt hbw (by (repeat (first | (with_reducible exact Below.refl _ _) | (with_reducible assumption) | (with_reducible apply bd) | (with_reducible apply ba) | (with_reducible refine bp ?_ (by first | omega | (simp [pad_size]; done) | (simp [pad_size]; omega)) _ _) | (with_reducible refine bs ?_ (by first | omega | (simp [pad_size]; done) | (simp [pad_size]; omega)) _) | (with_reducible refine bt ?_ (by assumption))))))
      | ((with_reducible refine (Below.block (?_ : Below wc.heap.size wc _) _ lt0).trans q0); ((repeat (first | (with_reducible exact Below.refl _ _) | (with_reducible assumption) | (with_reducible apply bd) | (with_reducible apply ba) | (with_reducible refine bp ?_ (by first | omega | (simp [pad_size]; done) | (simp [pad_size]; omega)) _ _) | (with_reducible refine bs ?_ (by first | omega | (simp [pad_size]; done) | (simp [pad_size]; omega)) _) | (with_reducible refine bt ?_ (by assumption))))); done)
      | ((with_reducible refine (Below.block (?_ : Below wc.heap.size wc _) _ lt1).trans q1); ((repeat (first | (with_reducible exact Below.refl _ _) | (with_reducible assumption) | (with_reducible apply bd) | (with_reducible apply ba) | (with_reducible refine bp ?_ (by first | omega | (simp [pad_size]; done) | (simp [pad_size]; omega)) _ _) | (with_reducible refine bs ?_ (by first | omega | (simp [pad_size]; done) | (simp [pad_size]; omega)) _) | (with_reducible refine bt ?_ (by assumption))))); done)
      | ((with_reducible refine (Below.block (?_ : Below wc.heap.size wc _) _ lt2).trans q2); ((repeat (first | (with_reducible exact Below.refl _ _) | (with_reducible assumption) | (with_reducible apply bd) | (with_reducible apply ba) | (with_reducible refine bp ?_ (by first | omega | (simp [pad_size]; done) | (simp [pad_size]; omega)) _ _) | (with_reducible refine bs ?_ (by first | omega | (simp [pad_size]; done) | (simp [pad_size]; omega)) _) | (with_reducible refine bt ?_ (by assumption))))); done)
      | ((with_reducible refine (Below.block (?_ : Below wc.heap.size wc _) _ lt3).trans q3); ((repeat (first | (with_reducible exact Below.refl _ _) | (with_reducible assumption) | (with_reducible apply bd) | (with_reducible apply ba) | (with_reducible refine bp ?_ (by first | omega | (simp [pad_size]; done) | (simp [pad_size]; omega)) _ _) | (with_reducible refine bs ?_ (by first | omega | (simp [pad_size]; done) | (simp [pad_size]; omega)) _) | (with_reducible refine bt ?_ (by assumption))))); done)
      | ((with_reducible refine (Below.block (?_ : Below wc.heap.size wc _) _ lt4).trans q4); ((repeat (first | (with_reducible exact Below.refl _ _) | (with_reducible assumption) | (with_reducible apply bd) | (with_reducible apply ba) | (with_reducible refine bp ?_ (by first | omega | (simp [pad_size]; done) | (simp [pad_size]; omega)) _ _) | (with_reducible refine bs ?_ (by first | omega | (simp [pad_size]; done) | (simp [pad_size]; omega)) _) | (with_reducible refine bt ?_ (by assumption))))); done)
      | (((repeat (first | (with_reducible exact al_at (by simp [pad_size])) | (with_reducible refine Eq.trans (dr_blk _ _) ?_) | (with_reducible refine Eq.trans (al_old (by first | omega | (simp [pad_size]; done) | (simp [pad_size]; omega))) ?_) | (with_reducible refine Eq.trans (pad_block (by first | omega | (simp [pad_size]; done) | (simp [pad_size]; omega)) (by first | omega | (simp [pad_size]; done) | (simp [pad_size]; omega))) ?_) | (with_reducible assumption)))); done)
    case rest =>
      clear q0 cq0 fq0 lt0
      clear q1 cq1 fq1 lt1
      clear q2 cq2 fq2 lt2
      clear q3 cq3 fq3 lt3
      clear q4 cq4 fq4 lt4
      clear hbw hsz
      obtain ⟨B11, B12, rfl, rfl, hsz, lx_B11, lx_B12, lx_B9, lb_B11, lb_B12, hbw, q0, q1, q2, q3, q4⟩ := hcut
      obtain ⟨cq0, fq0⟩ := cells_of_block q0
      have lt0 : w.heap.size < wc.heap.size := by omega
      obtain ⟨cq1, fq1⟩ := cells_of_block q1
      have lt1 : w.heap.size + 1 < wc.heap.size := by omega
      obtain ⟨cq2, fq2⟩ := cells_of_block q2
      have lt2 : B9 < wc.heap.size := by omega
      obtain ⟨cq3, fq3⟩ := cells_of_block q3
      have lt3 : B11 < wc.heap.size := by omega
      obtain ⟨cq4, fq4⟩ := cells_of_block q4
      have lt4 : B12 < wc.heap.size := by omega
      go_wp2_with (first
      | (go_at_call 21; with_reducible refine (h5.at _).mono ?_; rintro e w' ⟨rfl, hb⟩; obtain ⟨m5, g5, d5, hm5, rfl⟩ := pad_of hb; clear hb; (try simp [pad_size] at hm5); have sz5_0 := szw lt0 (show wc.heap.size ≤ m5 by omega); have sz5_1 := szw lt1 (show wc.heap.size ≤ m5 by omega); have sz5_2 := szw lt2 (show wc.heap.size ≤ m5 by omega); have sz5_3 := szw lt3 (show wc.heap.size ≤ m5 by omega); have sz5_4 := szw lt4 (show wc.heap.size ≤ m5 by omega))
      | (go_at_call 11; with_reducible refine (h6.at _).mono ?_; rintro e w' ⟨rfl, hb⟩; obtain ⟨m6, g6, d6, hm6, rfl⟩ := pad_of hb; clear hb; (try simp [pad_size] at hm6); have sz6_0 := szw lt0 (show wc.heap.size ≤ m6 by omega); have sz6_1 := szw lt1 (show wc.heap.size ≤ m6 by omega); have sz6_2 := szw lt2 (show wc.heap.size ≤ m6 by omega); have sz6_3 := szw lt3 (show wc.heap.size ≤ m6 by omega); have sz6_4 := szw lt4 (show wc.heap.size ≤ m6 by omega); (try have sy6_m5 := sz1 (n := m5) (m := m6) (by omega)))
      | (go_at_call 21; with_reducible refine (h7.at _).mono ?_; rintro e w' ⟨rfl, hb⟩; obtain ⟨m7, g7, d7, hm7, rfl⟩ := pad_of hb; clear hb; (try simp [pad_size] at hm7); have sz7_0 := szw lt0 (show wc.heap.size ≤ m7 by omega); have sz7_1 := szw lt1 (show wc.heap.size ≤ m7 by omega); have sz7_2 := szw lt2 (show wc.heap.size ≤ m7 by omega); have sz7_3 := szw lt3 (show wc.heap.size ≤ m7 by omega); have sz7_4 := szw lt4 (show wc.heap.size ≤ m7 by omega); (try have sy7_m5 := sz1 (n := m5) (m := m7) (by omega)); (try have sy7_m6 := sz1 (n := m6) (m := m7) (by omega)))
      | (go_at_call 10; with_reducible refine (says_worths.at _).mono ?_; rintro e w' ⟨rfl, hb⟩; obtain ⟨m8, g8, d8, hm8, rfl⟩ := pad_of hb; clear hb; (try simp [pad_size] at hm8); have sz8_0 := szw lt0 (show wc.heap.size ≤ m8 by omega); have sz8_1 := szw lt1 (show wc.heap.size ≤ m8 by omega); have sz8_2 := szw lt2 (show wc.heap.size ≤ m8 by omega); have sz8_3 := szw lt3 (show wc.heap.size ≤ m8 by omega); have sz8_4 := szw lt4 (show wc.heap.size ≤ m8 by omega); (try have sy8_m5 := sz1 (n := m5) (m := m8) (by omega)); (try have sy8_m6 := sz1 (n := m6) (m := m8) (by omega)); (try have sy8_m7 := sz1 (n := m7) (m := m8) (by omega)))
      | (go_at_call 18; with_reducible refine (h8.at _).mono ?_; rintro e w' ⟨rfl, hb⟩; obtain ⟨m9, g9, d9, hm9, rfl⟩ := pad_of hb; clear hb; (try simp [pad_size] at hm9); have sz9_0 := szw lt0 (show wc.heap.size ≤ m9 by omega); have sz9_1 := szw lt1 (show wc.heap.size ≤ m9 by omega); have sz9_2 := szw lt2 (show wc.heap.size ≤ m9 by omega); have sz9_3 := szw lt3 (show wc.heap.size ≤ m9 by omega); have sz9_4 := szw lt4 (show wc.heap.size ≤ m9 by omega); (try have sy9_m5 := sz1 (n := m5) (m := m9) (by omega)); (try have sy9_m6 := sz1 (n := m6) (m := m9) (by omega)); (try have sy9_m7 := sz1 (n := m7) (m := m9) (by omega)))
      | (go_at_call 18; with_reducible refine (h9.at _).mono ?_; rintro e w' ⟨rfl, hb⟩; obtain ⟨m10, g10, d10, hm10, rfl⟩ := pad_of hb; clear hb; (try simp [pad_size] at hm10); have sz10_0 := szw lt0 (show wc.heap.size ≤ m10 by omega); have sz10_1 := szw lt1 (show wc.heap.size ≤ m10 by omega); have sz10_2 := szw lt2 (show wc.heap.size ≤ m10 by omega); have sz10_3 := szw lt3 (show wc.heap.size ≤ m10 by omega); have sz10_4 := szw lt4 (show wc.heap.size ≤ m10 by omega); (try have sy10_m5 := sz1 (n := m5) (m := m10) (by omega)); (try have sy10_m6 := sz1 (n := m6) (m := m10) (by omega)); (try have sy10_m7 := sz1 (n := m7) (m := m10) (by omega))))
      all_goals go_ret
      all_goals exact ⟨rfl, bt hbw (by (repeat (first | (with_reducible exact Below.refl _ _) | (with_reducible assumption) | (with_reducible apply bd) | (with_reducible apply ba) | (with_reducible refine bp ?_ (by first | omega | (simp [pad_size]; done) | (simp [pad_size]; omega)) _ _) | (with_reducible refine bs ?_ (by first | omega | (simp [pad_size]; done) | (simp [pad_size]; omega)) _) | (with_reducible refine bt ?_ (by assumption)))))⟩
set_option maxRecDepth 100000 in
set_option maxHeartbeats 4000000 in
theorem shareSplits_v {x0 x1 x2 x3 y0 y1 y2 y3 z0 z1 z2 z3 u0 u1 u2 u3 r0 r1 r2 r3 a0 a1 a2 a3 b0 b1 b2 b3 s0 s1 s2 s3 t0 t1 t2 t3 p0 p1 p2 p3 c d : Int} (h1 : Says 21 #[.agg #[.int .u64 z0, .int .u64 z1, .int .u64 z2, .int .u64 z3], .agg #[.int .u64 u0, .int .u64 u1, .int .u64 u2, .int .u64 u3]] (.tuple #[.agg #[.int .u64 r0, .int .u64 r1, .int .u64 r2, .int .u64 r3], .bool true])) (h2 : Says 18 #[.agg #[.int .u64 r0, .int .u64 r1, .int .u64 r2, .int .u64 r3], .agg #[.int .u64 y0, .int .u64 y1, .int .u64 y2, .int .u64 y3]] (.int .i64 c)) (hc : decide (0 < c) = false) (h3 : Says 11 #[.agg #[.int .u64 x0, .int .u64 x1, .int .u64 x2, .int .u64 x3], .agg #[.int .u64 y0, .int .u64 y1, .int .u64 y2, .int .u64 y3], .agg #[.int .u64 z0, .int .u64 z1, .int .u64 z2, .int .u64 z3]] (.agg #[.int .u64 a0, .int .u64 a1, .int .u64 a2, .int .u64 a3])) (h4 : Says 11 #[.agg #[.int .u64 x0, .int .u64 x1, .int .u64 x2, .int .u64 x3], .agg #[.int .u64 y0, .int .u64 y1, .int .u64 y2, .int .u64 y3], .agg #[.int .u64 u0, .int .u64 u1, .int .u64 u2, .int .u64 u3]] (.agg #[.int .u64 b0, .int .u64 b1, .int .u64 b2, .int .u64 b3])) (h5 : Says 21 #[.agg #[.int .u64 a0, .int .u64 a1, .int .u64 a2, .int .u64 a3], .agg #[.int .u64 b0, .int .u64 b1, .int .u64 b2, .int .u64 b3]] (.tuple #[.agg #[.int .u64 s0, .int .u64 s1, .int .u64 s2, .int .u64 s3], .bool true])) (h6 : Says 11 #[.agg #[.int .u64 x0, .int .u64 x1, .int .u64 x2, .int .u64 x3], .agg #[.int .u64 y0, .int .u64 y1, .int .u64 y2, .int .u64 y3], .agg #[.int .u64 r0, .int .u64 r1, .int .u64 r2, .int .u64 r3]] (.agg #[.int .u64 t0, .int .u64 t1, .int .u64 t2, .int .u64 t3])) (h7 : Says 21 #[.agg #[.int .u64 s0, .int .u64 s1, .int .u64 s2, .int .u64 s3], .agg #[.int .u64 1, .int .u64 0, .int .u64 0, .int .u64 0]] (.tuple #[.agg #[.int .u64 p0, .int .u64 p1, .int .u64 p2, .int .u64 p3], .bool false])) (h8 : Says 18 #[.agg #[.int .u64 s0, .int .u64 s1, .int .u64 s2, .int .u64 s3], .agg #[.int .u64 t0, .int .u64 t1, .int .u64 t2, .int .u64 t3]] (.int .i64 d)) (hd : decide (d ≤ 0) = true) (w : World) :
    Calls Try.prog 7 #[.agg #[.int .u64 x0, .int .u64 x1, .int .u64 x2, .int .u64 x3], .agg #[.int .u64 y0, .int .u64 y1, .int .u64 y2, .int .u64 y3], .agg #[.int .u64 z0, .int .u64 z1, .int .u64 z2, .int .u64 z3], .agg #[.int .u64 u0, .int .u64 u1, .int .u64 u2, .int .u64 u3]] w fun e w' => e = .returned (.bool true) ∧ Below w.heap.size w w' := by
  have hpad := pads
  have heq := eq_num
  have hes := eq4_self
  go_enter Try.func7, Try.ntmps7
  go_upto_region 1 with fail
  go_cut [9, 10] from 18 to 24 (fun s9 s10 wx => ∃ B9 : Nat, s9 = .pointer (some ⟨B9, 0, none⟩) ∧ s10 = .bool true ∧ w.heap.size + 4 ≤ wx.heap.size ∧ B9 < wx.heap.size ∧ w.heap.size + 4 ≤ B9 ∧ Below w.heap.size w wx ∧ wx.heap[w.heap.size]? = some (.cells #[.int .u64 x0, .int .u64 x1, .int .u64 x2, .int .u64 x3] 24 (0, 0)) ∧ wx.heap[w.heap.size + 1]? = some (.cells #[.int .u64 y0, .int .u64 y1, .int .u64 y2, .int .u64 y3] 24 (0, 0)) ∧ wx.heap[w.heap.size + 1 + 1]? = some (.cells #[.int .u64 z0, .int .u64 z1, .int .u64 z2, .int .u64 z3] 24 (0, 0)) ∧ wx.heap[w.heap.size + 1 + 1 + 1]? = some (.cells #[.int .u64 u0, .int .u64 u1, .int .u64 u2, .int .u64 u3] 24 (0, 0)) ∧ wx.heap[B9]? = some (.cells #[.int .u64 r0, .int .u64 r1, .int .u64 r2, .int .u64 r3] 24 (0, 0)))
  case first =>
    go_wp2_with (first
  | (go_at_call 21; with_reducible refine (h1.at _).mono ?_; rintro e w' ⟨rfl, hb⟩; obtain ⟨m1, g1, d1, hm1, rfl⟩ := pad_of hb; clear hb; (try simp [pad_size] at hm1); have st1_w := sz4 (n := w.heap.size) (m := m1) (by omega)))
    all_goals go_meet
    all_goals refine ⟨_, by first | rfl | (simp; done) | go_simp, by first | rfl | (simp; done) | go_simp, ?_, ?_, ?_, ?_, ?_, ?_, ?_, ?_, ?_⟩
    all_goals first
    | (exact (by first | omega | (simp [pad_size]; done) | (simp [pad_size]; omega)))
    | (((repeat (first | (with_reducible exact Below.refl _ _) | (with_reducible assumption) | (with_reducible apply bd) | (with_reducible apply ba) | (with_reducible refine bp ?_ (by first | omega | (simp [pad_size]; done) | (simp [pad_size]; omega)) _ _) | (with_reducible refine bs ?_ (by first | omega | (simp [pad_size]; done) | (simp [pad_size]; omega)) _) | (with_reducible refine bt ?_ (by assumption))))); done)
    | (((repeat (first | (with_reducible exact al_at (by simp [pad_size])) | (with_reducible refine Eq.trans (dr_blk _ _) ?_) | (with_reducible refine Eq.trans (al_old (by first | omega | (simp [pad_size]; done) | (simp [pad_size]; omega))) ?_) | (with_reducible refine Eq.trans (pad_block (by first | omega | (simp [pad_size]; done) | (simp [pad_size]; omega)) (by first | omega | (simp [pad_size]; done) | (simp [pad_size]; omega))) ?_) | (with_reducible assumption)))); done)
  case rest =>
    obtain ⟨B9, rfl, rfl, hsz, lx_B9, lb_B9, hbw, q0, q1, q2, q3, q4⟩ := hcut
    obtain ⟨cq0, fq0⟩ := cells_of_block q0
    have lt0 : w.heap.size < wc.heap.size := by omega
    obtain ⟨cq1, fq1⟩ := cells_of_block q1
    have lt1 : w.heap.size + 1 < wc.heap.size := by omega
    obtain ⟨cq2, fq2⟩ := cells_of_block q2
    have lt2 : w.heap.size + 1 + 1 < wc.heap.size := by omega
    obtain ⟨cq3, fq3⟩ := cells_of_block q3
    have lt3 : w.heap.size + 1 + 1 + 1 < wc.heap.size := by omega
    obtain ⟨cq4, fq4⟩ := cells_of_block q4
    have lt4 : B9 < wc.heap.size := by omega
    go_upto_region 4 with (first
    | (go_at_call 18; with_reducible refine (h2.at _).mono ?_; rintro e w' ⟨rfl, hb⟩; obtain ⟨m2, g2, d2, hm2, rfl⟩ := pad_of hb; clear hb; (try simp [pad_size] at hm2); have sz2_0 := szw lt0 (show wc.heap.size ≤ m2 by omega); have sz2_1 := szw lt1 (show wc.heap.size ≤ m2 by omega); have sz2_2 := szw lt2 (show wc.heap.size ≤ m2 by omega); have sz2_3 := szw lt3 (show wc.heap.size ≤ m2 by omega); have sz2_4 := szw lt4 (show wc.heap.size ≤ m2 by omega)))
    have hK : Hid (∀ W, Below wc.heap.size wc W → (W.cell? ⟨w.heap.size, 0, none⟩ = some (.int .u64 x0) ∧ W.cell? ⟨w.heap.size, 1, none⟩ = some (.int .u64 x1) ∧ W.cell? ⟨w.heap.size, 2, none⟩ = some (.int .u64 x2) ∧ W.cell? ⟨w.heap.size, 3, none⟩ = some (.int .u64 x3) ∧ W.cell? ⟨w.heap.size + 1, 0, none⟩ = some (.int .u64 y0) ∧ W.cell? ⟨w.heap.size + 1, 1, none⟩ = some (.int .u64 y1) ∧ W.cell? ⟨w.heap.size + 1, 2, none⟩ = some (.int .u64 y2) ∧ W.cell? ⟨w.heap.size + 1, 3, none⟩ = some (.int .u64 y3) ∧ W.cell? ⟨w.heap.size + 1 + 1, 0, none⟩ = some (.int .u64 z0) ∧ W.cell? ⟨w.heap.size + 1 + 1, 1, none⟩ = some (.int .u64 z1) ∧ W.cell? ⟨w.heap.size + 1 + 1, 2, none⟩ = some (.int .u64 z2) ∧ W.cell? ⟨w.heap.size + 1 + 1, 3, none⟩ = some (.int .u64 z3) ∧ W.cell? ⟨w.heap.size + 1 + 1 + 1, 0, none⟩ = some (.int .u64 u0) ∧ W.cell? ⟨w.heap.size + 1 + 1 + 1, 1, none⟩ = some (.int .u64 u1) ∧ W.cell? ⟨w.heap.size + 1 + 1 + 1, 2, none⟩ = some (.int .u64 u2) ∧ W.cell? ⟨w.heap.size + 1 + 1 + 1, 3, none⟩ = some (.int .u64 u3))) := by
      intro W hW
      have r0 := (cells_of_block ((hW.block _ lt0).trans q0)).1
      have r1 := (cells_of_block ((hW.block _ lt1).trans q1)).1
      have r2 := (cells_of_block ((hW.block _ lt2).trans q2)).1
      have r3 := (cells_of_block ((hW.block _ lt3).trans q3)).1
      simp [r0, r1, r2, r3]
    go_cut [11, 12] from 33 to 41 (fun s11 s12 wx => ∃ B11 B12 : Nat, s11 = .pointer (some ⟨B11, 0, none⟩) ∧ s12 = .pointer (some ⟨B12, 0, none⟩) ∧ w.heap.size + 4 ≤ wx.heap.size ∧ B11 < wx.heap.size ∧ B12 < wx.heap.size ∧ B9 < wx.heap.size ∧ w.heap.size + 4 ≤ B11 ∧ w.heap.size + 4 ≤ B12 ∧ Below w.heap.size w wx ∧ wx.heap[w.heap.size]? = some (.cells #[.int .u64 x0, .int .u64 x1, .int .u64 x2, .int .u64 x3] 24 (0, 0)) ∧ wx.heap[w.heap.size + 1]? = some (.cells #[.int .u64 y0, .int .u64 y1, .int .u64 y2, .int .u64 y3] 24 (0, 0)) ∧ wx.heap[B9]? = some (.cells #[.int .u64 r0, .int .u64 r1, .int .u64 r2, .int .u64 r3] 24 (0, 0)) ∧ wx.heap[B11]? = some (.cells #[.int .u64 a0, .int .u64 a1, .int .u64 a2, .int .u64 a3] 24 (0, 0)) ∧ wx.heap[B12]? = some (.cells #[.int .u64 b0, .int .u64 b1, .int .u64 b2, .int .u64 b3] 24 (0, 0)))
    case first =>
      go_region_held2 (fun W => W.cell? ⟨w.heap.size, 0, none⟩ = some (.int .u64 x0) ∧ W.cell? ⟨w.heap.size, 1, none⟩ = some (.int .u64 x1) ∧ W.cell? ⟨w.heap.size, 2, none⟩ = some (.int .u64 x2) ∧ W.cell? ⟨w.heap.size, 3, none⟩ = some (.int .u64 x3) ∧ W.cell? ⟨w.heap.size + 1, 0, none⟩ = some (.int .u64 y0) ∧ W.cell? ⟨w.heap.size + 1, 1, none⟩ = some (.int .u64 y1) ∧ W.cell? ⟨w.heap.size + 1, 2, none⟩ = some (.int .u64 y2) ∧ W.cell? ⟨w.heap.size + 1, 3, none⟩ = some (.int .u64 y3) ∧ W.cell? ⟨w.heap.size + 1 + 1, 0, none⟩ = some (.int .u64 z0) ∧ W.cell? ⟨w.heap.size + 1 + 1, 1, none⟩ = some (.int .u64 z1) ∧ W.cell? ⟨w.heap.size + 1 + 1, 2, none⟩ = some (.int .u64 z2) ∧ W.cell? ⟨w.heap.size + 1 + 1, 3, none⟩ = some (.int .u64 z3) ∧ W.cell? ⟨w.heap.size + 1 + 1 + 1, 0, none⟩ = some (.int .u64 u0) ∧ W.cell? ⟨w.heap.size + 1 + 1 + 1, 1, none⟩ = some (.int .u64 u1) ∧ W.cell? ⟨w.heap.size + 1 + 1 + 1, 2, none⟩ = some (.int .u64 u2) ∧ W.cell? ⟨w.heap.size + 1 + 1 + 1, 3, none⟩ = some (.int .u64 u3)) (exact hK.out _ (by (repeat (first | (with_reducible exact Below.refl _ _) | (with_reducible assumption) | (with_reducible apply bd) | (with_reducible apply ba) | (with_reducible refine bp ?_ (by first | omega | (simp [pad_size]; done) | (simp [pad_size]; omega)) _ _) | (with_reducible refine bs ?_ (by first | omega | (simp [pad_size]; done) | (simp [pad_size]; omega)) _) | (with_reducible refine bt ?_ (by assumption)))))) (first
      | (go_at_call 11; with_reducible refine (h3.at _).mono ?_; rintro e w' ⟨rfl, hb⟩; obtain ⟨m3, g3, d3, hm3, rfl⟩ := pad_of hb; clear hb; (try simp [pad_size] at hm3); have sz3_0 := szw lt0 (show wc.heap.size ≤ m3 by omega); have su3_0 := szp (Nat.succ_le_of_lt sz3_0.1); have sz3_1 := szw lt1 (show wc.heap.size ≤ m3 by omega); have su3_1 := szp (Nat.succ_le_of_lt sz3_1.1); have sz3_2 := szw lt2 (show wc.heap.size ≤ m3 by omega); have su3_2 := szp (Nat.succ_le_of_lt sz3_2.1); have sz3_3 := szw lt3 (show wc.heap.size ≤ m3 by omega); have su3_3 := szp (Nat.succ_le_of_lt sz3_3.1); have sz3_4 := szw lt4 (show wc.heap.size ≤ m3 by omega); have su3_4 := szp (Nat.succ_le_of_lt sz3_4.1); (try have sy3_m2 := sz1 (n := m2) (m := m3) (by omega)); (try have sx3_m2 := sz2 (n := m2) (m := m3) (by omega)); (try have sy3_m4 := sz1 (n := m4) (m := m3) (by omega)); (try have sx3_m4 := sz2 (n := m4) (m := m3) (by omega)))
      | (go_at_call 11; with_reducible refine (h4.at _).mono ?_; rintro e w' ⟨rfl, hb⟩; obtain ⟨m4, g4, d4, hm4, rfl⟩ := pad_of hb; clear hb; (try simp [pad_size] at hm4); have sz4_0 := szw lt0 (show wc.heap.size ≤ m4 by omega); have su4_0 := szp (Nat.succ_le_of_lt sz4_0.1); have sz4_1 := szw lt1 (show wc.heap.size ≤ m4 by omega); have su4_1 := szp (Nat.succ_le_of_lt sz4_1.1); have sz4_2 := szw lt2 (show wc.heap.size ≤ m4 by omega); have su4_2 := szp (Nat.succ_le_of_lt sz4_2.1); have sz4_3 := szw lt3 (show wc.heap.size ≤ m4 by omega); have su4_3 := szp (Nat.succ_le_of_lt sz4_3.1); have sz4_4 := szw lt4 (show wc.heap.size ≤ m4 by omega); have su4_4 := szp (Nat.succ_le_of_lt sz4_4.1); (try have sy4_m2 := sz1 (n := m2) (m := m4) (by omega)); (try have sx4_m2 := sz2 (n := m2) (m := m4) (by omega)); (try have sy4_m3 := sz1 (n := m3) (m := m4) (by omega)); (try have sx4_m3 := sz2 (n := m3) (m := m4) (by omega))))
      all_goals (go_wp2_with fail; go_meet)
      all_goals refine ⟨_, _, by first | rfl | (simp; done) | go_simp, by first | rfl | (simp; done) | go_simp, ?_, ?_, ?_, ?_, ?_, ?_, ?_, ?_, ?_, ?_, ?_, ?_⟩
      all_goals first
      | (exact (by first | omega | (simp [pad_size]; done) | (simp [pad_size]; omega)))
      | (exact bt hbw (by (repeat (first | (with_reducible exact Below.refl _ _) | (with_reducible assumption) | (with_reducible apply bd) | (with_reducible apply ba) | (with_reducible refine bp ?_ (by first | omega | (simp [pad_size]; done) | (simp [pad_size]; omega)) _ _) | (with_reducible refine bs ?_ (by first | omega | (simp [pad_size]; done) | (simp [pad_size]; omega)) _) | (with_reducible refine bt ?_ (by assumption))))))
      | ((with_reducible refine (Below.block (?_ : Below wc.heap.size wc _) _ lt0).trans q0); ((repeat (first | (with_reducible exact Below.refl _ _) | (with_reducible assumption) | (with_reducible apply bd) | (with_reducible apply ba) | (with_reducible refine bp ?_ (by first | omega | (simp [pad_size]; done) | (simp [pad_size]; omega)) _ _) | (with_reducible refine bs ?_ (by first | omega | (simp [pad_size]; done) | (simp [pad_size]; omega)) _) | (with_reducible refine bt ?_ (by assumption))))); done)
      | ((with_reducible refine (Below.block (?_ : Below wc.heap.size wc _) _ lt1).trans q1); ((repeat (first | (with_reducible exact Below.refl _ _) | (with_reducible assumption) | (with_reducible apply bd) | (with_reducible apply ba) | (with_reducible refine bp ?_ (by first | omega | (simp [pad_size]; done) | (simp [pad_size]; omega)) _ _) | (with_reducible refine bs ?_ (by first | omega | (simp [pad_size]; done) | (simp [pad_size]; omega)) _) | (with_reducible refine bt ?_ (by assumption))))); done)
      | ((with_reducible refine (Below.block (?_ : Below wc.heap.size wc _) _ lt2).trans q2); ((repeat (first | (with_reducible exact Below.refl _ _) | (with_reducible assumption) | (with_reducible apply bd) | (with_reducible apply ba) | (with_reducible refine bp ?_ (by first | omega | (simp [pad_size]; done) | (simp [pad_size]; omega)) _ _) | (with_reducible refine bs ?_ (by first | omega | (simp [pad_size]; done) | (simp [pad_size]; omega)) _) | (with_reducible refine bt ?_ (by assumption))))); done)
      | ((with_reducible refine (Below.block (?_ : Below wc.heap.size wc _) _ lt3).trans q3); ((repeat (first | (with_reducible exact Below.refl _ _) | (with_reducible assumption) | (with_reducible apply bd) | (with_reducible apply ba) | (with_reducible refine bp ?_ (by first | omega | (simp [pad_size]; done) | (simp [pad_size]; omega)) _ _) | (with_reducible refine bs ?_ (by first | omega | (simp [pad_size]; done) | (simp [pad_size]; omega)) _) | (with_reducible refine bt ?_ (by assumption))))); done)
      | ((with_reducible refine (Below.block (?_ : Below wc.heap.size wc _) _ lt4).trans q4); ((repeat (first | (with_reducible exact Below.refl _ _) | (with_reducible assumption) | (with_reducible apply bd) | (with_reducible apply ba) | (with_reducible refine bp ?_ (by first | omega | (simp [pad_size]; done) | (simp [pad_size]; omega)) _ _) | (with_reducible refine bs ?_ (by first | omega | (simp [pad_size]; done) | (simp [pad_size]; omega)) _) | (with_reducible refine bt ?_ (by assumption))))); done)
      | (((repeat (first | (with_reducible exact al_at (by simp [pad_size])) | (with_reducible refine Eq.trans (dr_blk _ _) ?_) | (with_reducible refine Eq.trans (al_old (by first | omega | (simp [pad_size]; done) | (simp [pad_size]; omega))) ?_) | (with_reducible refine Eq.trans (pad_block (by first | omega | (simp [pad_size]; done) | (simp [pad_size]; omega)) (by first | omega | (simp [pad_size]; done) | (simp [pad_size]; omega))) ?_) | (with_reducible assumption)))); done)
    case rest =>
      clear q0 cq0 fq0 lt0
      clear q1 cq1 fq1 lt1
      clear q2 cq2 fq2 lt2
      clear q3 cq3 fq3 lt3
      clear q4 cq4 fq4 lt4
      clear hbw hsz
      obtain ⟨B11, B12, rfl, rfl, hsz, lx_B11, lx_B12, lx_B9, lb_B11, lb_B12, hbw, q0, q1, q2, q3, q4⟩ := hcut
      obtain ⟨cq0, fq0⟩ := cells_of_block q0
      have lt0 : w.heap.size < wc.heap.size := by omega
      obtain ⟨cq1, fq1⟩ := cells_of_block q1
      have lt1 : w.heap.size + 1 < wc.heap.size := by omega
      obtain ⟨cq2, fq2⟩ := cells_of_block q2
      have lt2 : B9 < wc.heap.size := by omega
      obtain ⟨cq3, fq3⟩ := cells_of_block q3
      have lt3 : B11 < wc.heap.size := by omega
      obtain ⟨cq4, fq4⟩ := cells_of_block q4
      have lt4 : B12 < wc.heap.size := by omega
      go_wp2_with (first
      | (go_at_call 21; with_reducible refine (h5.at _).mono ?_; rintro e w' ⟨rfl, hb⟩; obtain ⟨m5, g5, d5, hm5, rfl⟩ := pad_of hb; clear hb; (try simp [pad_size] at hm5); have sz5_0 := szw lt0 (show wc.heap.size ≤ m5 by omega); have sz5_1 := szw lt1 (show wc.heap.size ≤ m5 by omega); have sz5_2 := szw lt2 (show wc.heap.size ≤ m5 by omega); have sz5_3 := szw lt3 (show wc.heap.size ≤ m5 by omega); have sz5_4 := szw lt4 (show wc.heap.size ≤ m5 by omega))
      | (go_at_call 11; with_reducible refine (h6.at _).mono ?_; rintro e w' ⟨rfl, hb⟩; obtain ⟨m6, g6, d6, hm6, rfl⟩ := pad_of hb; clear hb; (try simp [pad_size] at hm6); have sz6_0 := szw lt0 (show wc.heap.size ≤ m6 by omega); have sz6_1 := szw lt1 (show wc.heap.size ≤ m6 by omega); have sz6_2 := szw lt2 (show wc.heap.size ≤ m6 by omega); have sz6_3 := szw lt3 (show wc.heap.size ≤ m6 by omega); have sz6_4 := szw lt4 (show wc.heap.size ≤ m6 by omega); (try have sy6_m5 := sz1 (n := m5) (m := m6) (by omega)))
      | (go_at_call 21; with_reducible refine (h7.at _).mono ?_; rintro e w' ⟨rfl, hb⟩; obtain ⟨m7, g7, d7, hm7, rfl⟩ := pad_of hb; clear hb; (try simp [pad_size] at hm7); have sz7_0 := szw lt0 (show wc.heap.size ≤ m7 by omega); have sz7_1 := szw lt1 (show wc.heap.size ≤ m7 by omega); have sz7_2 := szw lt2 (show wc.heap.size ≤ m7 by omega); have sz7_3 := szw lt3 (show wc.heap.size ≤ m7 by omega); have sz7_4 := szw lt4 (show wc.heap.size ≤ m7 by omega); (try have sy7_m5 := sz1 (n := m5) (m := m7) (by omega)); (try have sy7_m6 := sz1 (n := m6) (m := m7) (by omega)))
      | (go_at_call 10; with_reducible refine (says_worths.at _).mono ?_; rintro e w' ⟨rfl, hb⟩; obtain ⟨m8, g8, d8, hm8, rfl⟩ := pad_of hb; clear hb; (try simp [pad_size] at hm8); have sz8_0 := szw lt0 (show wc.heap.size ≤ m8 by omega); have sz8_1 := szw lt1 (show wc.heap.size ≤ m8 by omega); have sz8_2 := szw lt2 (show wc.heap.size ≤ m8 by omega); have sz8_3 := szw lt3 (show wc.heap.size ≤ m8 by omega); have sz8_4 := szw lt4 (show wc.heap.size ≤ m8 by omega); (try have sy8_m5 := sz1 (n := m5) (m := m8) (by omega)); (try have sy8_m6 := sz1 (n := m6) (m := m8) (by omega)); (try have sy8_m7 := sz1 (n := m7) (m := m8) (by omega)))
      | (go_at_call 18; with_reducible refine (h8.at _).mono ?_; rintro e w' ⟨rfl, hb⟩; obtain ⟨m9, g9, d9, hm9, rfl⟩ := pad_of hb; clear hb; (try simp [pad_size] at hm9); have sz9_0 := szw lt0 (show wc.heap.size ≤ m9 by omega); have sz9_1 := szw lt1 (show wc.heap.size ≤ m9 by omega); have sz9_2 := szw lt2 (show wc.heap.size ≤ m9 by omega); have sz9_3 := szw lt3 (show wc.heap.size ≤ m9 by omega); have sz9_4 := szw lt4 (show wc.heap.size ≤ m9 by omega); (try have sy9_m5 := sz1 (n := m5) (m := m9) (by omega)); (try have sy9_m6 := sz1 (n := m6) (m := m9) (by omega)); (try have sy9_m7 := sz1 (n := m7) (m := m9) (by omega))))
      all_goals go_ret
      all_goals exact ⟨rfl, bt hbw (by (repeat (first | (with_reducible exact Below.refl _ _) | (with_reducible assumption) | (with_reducible apply bd) | (with_reducible apply ba) | (with_reducible refine bp ?_ (by first | omega | (simp [pad_size]; done) | (simp [pad_size]; omega)) _ _) | (with_reducible refine bs ?_ (by first | omega | (simp [pad_size]; done) | (simp [pad_size]; omega)) _) | (with_reducible refine bt ?_ (by assumption)))))⟩
theorem split_worth {t s x y : Int} (ht : 0 ≤ t) (hx : 0 ≤ x) (hy : 0 ≤ y) (h : x + y ≤ s) : worthI t s x + worthI t s y ≤ worthI t s (x + y) ∧ worthI t s (x + y) ≤ worthI t s x + worthI t s y + 1 := by
  by_cases hs : s = 0
  · have e : ∀ z, worthI t s z = 0 := fun z => by unfold worthI; rw [if_pos hs]
    simp [e]
  · have hp : 0 < s := by omega
    rw [worth_of (x := y) hp (by omega), worth_of (x := x) hp (by omega), worth_of (x := x + y) hp h]
    obtain ⟨a1, a2, a3⟩ := dm_of (x * t) hp
    obtain ⟨b1, b2, b3⟩ := dm_of (y * t) hp
    have e : (x + y) * t = x * t + y * t := Int.add_mul _ _ _
    constructor
    · apply (Int.le_ediv_iff_mul_le hp).2
      rw [Int.add_mul, e]; omega
    · apply Int.le_of_lt_add_one
      apply (Int.ediv_lt_iff_lt_mul hp).2
      rw [e, Int.add_mul, Int.add_mul, Int.add_mul]; omega

theorem shareSplits_any (x0 x1 x2 x3 y0 y1 y2 y3 z0 z1 z2 z3 u0 u1 u2 u3 : Int) (hx : Lim x0 x1 x2 x3) (hy : Lim y0 y1 y2 y3) (hz : Lim z0 z1 z2 z3) (hu : Lim u0 u1 u2 u3) (w : World) :
    Calls Try.prog 7 #[.agg #[.int .u64 x0, .int .u64 x1, .int .u64 x2, .int .u64 x3], .agg #[.int .u64 y0, .int .u64 y1, .int .u64 y2, .int .u64 y3], .agg #[.int .u64 z0, .int .u64 z1, .int .u64 z2, .int .u64 z3], .agg #[.int .u64 u0, .int .u64 u1, .int .u64 u2, .int .u64 u3]] w fun e w' => e = .returned (.bool true) ∧ Below w.heap.size w w' := by
  have x0' := val_lo hx
  have y0' := val_lo hy
  have z0' := val_lo hz
  have u0' := val_lo hu
  have xh := val_hi hx
  by_cases ho : val z0 z1 z2 z3 + val u0 u1 u2 u3 < 115792089237316195423570985008687907853269984665640564039457584007913129639936
  · obtain ⟨r0, r1, r2, r3, hr, er⟩ := limbs_of (show 0 ≤ val z0 z1 z2 z3 + val u0 u1 u2 u3 by omega) ho
    have h1 := says_addR hz hu hr er
    by_cases hc : val r0 r1 r2 r3 ≤ val y0 y1 y2 y3
    · obtain ⟨a0, a1, a2, a3, ha, ea⟩ := worth_ex hx hy hz
      obtain ⟨b0, b1, b2, b3, hb, eb⟩ := worth_ex hx hy hu
      obtain ⟨t0, t1, t2, t3, ht, et⟩ := worth_ex hx hy hr
      have hsp := split_worth (s := val y0 y1 y2 y3) x0' z0' u0' (by omega)
      rw [← er] at hsp
      have a0' := worth_lim x0' y0' z0'
      have b0' := worth_lim x0' y0' u0'
      have t0' := worth_lim x0' y0' (val_lo hr)
      obtain ⟨s0, s1, s2, s3, hs, es⟩ := limbs_of (n := val a0 a1 a2 a3 + val b0 b1 b2 b3) (by omega) (by omega)
      have l1 : Lim 1 0 0 0 := by unfold Lim; omega
      have k1 := says_cmpR hr hy rfl
      have k2 : decide (0 < cmpI (val r0 r1 r2 r3) (val y0 y1 y2 y3)) = false := decide_eq_false (by have := cmp_le0 hc; omega)
      have k3 := says_worthV hx hy hz ha ea
      have k4 := says_worthV hx hy hu hb eb
      have k5 := says_addR ha hb hs es
      have k6 := says_worthV hx hy hr ht et
      have k8 := says_cmpR hs ht rfl
      have k9 : decide (cmpI (val s0 s1 s2 s3) (val t0 t1 t2 t3) ≤ 0) = true := decide_eq_true (cmp_le0 (by omega))
      by_cases hm : val s0 s1 s2 s3 + 1 < 115792089237316195423570985008687907853269984665640564039457584007913129639936
      · obtain ⟨p0, p1, p2, p3, hp, ep⟩ := limbs_of (show 0 ≤ val s0 s1 s2 s3 + 1 by omega) hm
        exact shareSplits_w h1 k1 k2 k3 k4 k5 k6 (says_addR hs l1 hp (by rw [ep, val_of])) k8 k9 (says_cmpR ht hp rfl) (decide_eq_true (cmp_le0 (by omega))) w
      · exact shareSplits_v h1 k1 k2 k3 k4 k5 k6 (says_addR_over hs l1 (by rw [val_of]; omega)) k8 k9 w
    · exact shareSplits_gt h1 (says_cmpR hr hy rfl) (decide_eq_true (cmp_pos (by omega))) w
  · exact shareSplits_no (says_addR_over hz hu (show _ ≤ _ by omega)) w

theorem shareSplits_own : ownKnob Try.prog.godebug = none := by kernel_rfl
theorem shareSplits_laid : laidOutB Try.prog = true := by kernel_rfl

set_option maxRecDepth 100000 in
theorem shareSplits_lifted (os : Os) (started : os.Started) (H : Type) (enc : TypeId × Value → H) :
    ReturnsInHanded {} Try.checked os 7 .any (Rows.shareSplitsSpec.pre6 enc Try.prog Try.f7 Rows.shareSplitsRow.domain false) (Rows.shareSplitsSpec.post enc Try.prog Try.f7 false true false false) := by
  refine returnsInHanded_of_change (C := Try.checked) shareSplits_own started (by kernel_rfl) Try.func7
    (ChangeSpec.witness6 (enc := enc) (C := Try.checked) false ⟨#[], #[.agg #[.int .u64 0, .int .u64 0, .int .u64 0, .int .u64 0], .agg #[.int .u64 0, .int .u64 0, .int .u64 0, .int .u64 0], .agg #[.int .u64 0, .int .u64 0, .int .u64 0, .int .u64 0], .agg #[.int .u64 0, .int .u64 0, .int .u64 0, .int .u64 0]], []⟩ 8 (by kernel_rfl) (by kernel_rfl) (by kernel_rfl) (by kernel_rfl)) ?_
  intro W base args ds gs before hval0 hW hcnd _
  have hval : ∀ (j : Nat) t v, Try.f7.params[j]? = some t → args[j]? = some v → Value.okWide Try.prog W .any base t v := hval0
  have hW' := hW
  obtain ⟨p, q, hA0, hV, rfl, hfz, hnd⟩ := hW
  have hA : DataW.TrodAll enc Try.prog W 0 (fun _ => true) true Try.f7.params.toList args.toList ds p := hA0
  rw [Try.params7] at hA hval
  obtain ⟨v0, vs0, d0, ds0, p0, q0, hargs0, rfl, rfl, h0, r0⟩ := trodAll_cons hA
  obtain ⟨v1, vs1, d1, ds1, p1, q1, hargs1, rfl, rfl, h1, r1⟩ := trodAll_cons r0
  obtain ⟨v2, vs2, d2, ds2, p2, q2, hargs2, rfl, rfl, h2, r2⟩ := trodAll_cons r1
  obtain ⟨v3, vs3, d3, ds3, p3, q3, hargs3, rfl, rfl, h3, r3⟩ := trodAll_cons r2
  obtain ⟨rfl, rfl, rfl⟩ := trodAll_nil r3
  obtain rfl : args = #[v0, v1, v2, v3] := by cases args; simp_all
  obtain ⟨rfl, rfl⟩ := trodVars_none hV
  have k0 := h0
  have lt0 : ∀ x ∈ p0, x.block < W.heap.size := by obtain ⟨m, hm⟩ := k0; exact DataW.trod_lt m _ _ _ hm
  have k1 := h1
  have lt1 : ∀ x ∈ p1, x.block < W.heap.size := by obtain ⟨m, hm⟩ := k1; exact DataW.trod_lt m _ _ _ hm
  have k2 := h2
  have lt2 : ∀ x ∈ p2, x.block < W.heap.size := by obtain ⟨m, hm⟩ := k2; exact DataW.trod_lt m _ _ _ hm
  have k3 := h3
  have lt3 : ∀ x ∈ p3, x.block < W.heap.size := by obtain ⟨m, hm⟩ := k3; exact DataW.trod_lt m _ _ _ hm
  obtain ⟨x0, x1, x2, x3, rfl, hx⟩ := num_in (hval 0 24 v0 rfl rfl) h0
  obtain ⟨y0, y1, y2, y3, rfl, hy⟩ := num_in (hval 1 24 v1 rfl rfl) h1
  obtain ⟨z0, z1, z2, z3, rfl, hz⟩ := num_in (hval 2 24 v2 rfl rfl) h2
  obtain ⟨u0, u1, u2, u3, rfl, hu⟩ := num_in (hval 3 24 v3 rfl rfl) h3
  clear hA0 hval0
  have walk : Calls Try.prog 7 _ W fun e w' => e = .returned (.bool true) ∧ Below W.heap.size W w' := shareSplits_any x0 x1 x2 x3 y0 y1 y2 y3 z0 z1 z2 z3 u0 u1 u2 u3 hx hy hz hu W
  refine walk.mono fun e W' ⟨he, bel⟩ => ?_
  subst he
  exact ⟨_, rfl, _, _, _, [], _, [], hW', trodAll_mk1 (shut_bool Try.underlying4 _), trodAll_cons_mk (Below.trod shareSplits_laid (by kernel_rfl) (of_decide_eq_true (by kernel_rfl)) k0 bel lt0) (trodAll_cons_mk (Below.trod shareSplits_laid (by kernel_rfl) (of_decide_eq_true (by kernel_rfl)) k1 bel lt1) (trodAll_cons_mk (Below.trod shareSplits_laid (by kernel_rfl) (of_decide_eq_true (by kernel_rfl)) k2 bel lt2) (trodAll_cons_mk (Below.trod shareSplits_laid (by kernel_rfl) (of_decide_eq_true (by kernel_rfl)) k3 bel lt3) (trodAll_mk0)))), rfl, bel.frame _, fun h => by cases h⟩

theorem shareSplits_holds : Rows.ShareSplitsSaid :=
  OpenClaim.holds_of_wide 7 Try.f7 rfl rfl rfl rfl rfl rfl rfl ⟨rfl, rfl, rfl, rfl, rfl⟩ rfl rfl rfl rfl rfl (by kernel_rfl) Try.func7 (by kernel_rfl)
    (of_decide_eq_true (by kernel_rfl)) (by unfold Func.isWrapper; first | (rw [if_pos (by decide +kernel)]; kernel_rfl) | (rw [if_neg (by decide +kernel)]; exact ⟨rfl, rfl⟩))
    (fun os started H enc _ => shareSplits_lifted os started H enc)
#print axioms shareSplits_holds
end Go.Proofs.Ytligkenemocdbaa
