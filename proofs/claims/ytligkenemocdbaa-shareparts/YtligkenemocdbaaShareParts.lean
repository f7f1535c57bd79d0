
/- For every number and every two parts jointurelaw08.ShareParts returns true and writes nothing that was there: so many of the whole; never more, never more than it. No condition. -/
import Derived.Test.YtligkenemocdbaaSH3
set_option linter.unusedSimpArgs false
set_option linter.unusedVariables false
namespace Go.Proofs.Ytligkenemocdbaa
open Go.ChangeShapes Go.WideShapes Go.ChangeAt Go.RowKit

theorem szw {b n m : Nat} (h : b < n) (k : n ≤ m) : b < m ∧ ¬ b = m ∧ ¬ m = b := by omega
theorem szp {n m : Nat} (h : n + 1 ≤ m) : n < m + 1 ∧ ¬ n = m + 1 ∧ ¬ m + 1 = n ∧ n < m + 1 + 1 := by omega
theorem u16_in {H : Type} {enc : TypeId × Value → H} {w : World} {base : Nat} {spare : Nat → Bool} {held : Bool} {fuel : Nat} {x : DataW H × List MemPlace} {n : Int} (h : DataW.trod enc Try.prog w base spare held fuel 33 [.int .u16 n] = some x) : 0 ≤ n ∧ n < 65536 := by
  obtain ⟨d, ed, -, wd⟩ := DataW.trod_int Try.underlying33 h
  simp at ed
  subst ed
  have := bounds_u16 wd
  omega
set_option maxRecDepth 100000 in
set_option maxHeartbeats 4000000 in
theorem shareParts_le {x0 x1 x2 x3 r0 r1 r2 r3 v0 v1 v2 v3 p o c d : Int} (h1 : Says 19 #[.agg #[.int .u64 x0, .int .u64 x1, .int .u64 x2, .int .u64 x3], .int .u16 p] (.agg #[.int .u64 r0, .int .u64 r1, .int .u64 r2, .int .u64 r3])) (h2 : Says 19 #[.agg #[.int .u64 x0, .int .u64 x1, .int .u64 x2, .int .u64 x3], .int .u16 o] (.agg #[.int .u64 v0, .int .u64 v1, .int .u64 v2, .int .u64 v3])) (h3 : Says 20 #[.agg #[.int .u64 x0, .int .u64 x1, .int .u64 x2, .int .u64 x3], .int .u16 p] (.agg #[.int .u64 r0, .int .u64 r1, .int .u64 r2, .int .u64 r3])) (h4 : Says 18 #[.agg #[.int .u64 r0, .int .u64 r1, .int .u64 r2, .int .u64 r3], .agg #[.int .u64 v0, .int .u64 v1, .int .u64 v2, .int .u64 v3]] (.int .i64 c)) (h5 : Says 18 #[.agg #[.int .u64 r0, .int .u64 r1, .int .u64 r2, .int .u64 r3], .agg #[.int .u64 x0, .int .u64 x1, .int .u64 x2, .int .u64 x3]] (.int .i64 d)) (h6 : Says 19 #[.agg #[.int .u64 x0, .int .u64 x1, .int .u64 x2, .int .u64 x3], .int .u16 0] (.agg #[.int .u64 0, .int .u64 0, .int .u64 0, .int .u64 0])) (h7 : Says 19 #[.agg #[.int .u64 x0, .int .u64 x1, .int .u64 x2, .int .u64 x3], .int .u16 10000] (.agg #[.int .u64 x0, .int .u64 x1, .int .u64 x2, .int .u64 x3])) (hpo : decide (p ≤ o) = true) (hd : decide (d ≤ 0) = true) (hc : decide (0 < c) = false) (w : World) :
    Calls Try.prog 6 #[.agg #[.int .u64 x0, .int .u64 x1, .int .u64 x2, .int .u64 x3], .int .u16 p, .int .u16 o] w fun e w' => e = .returned (.bool true) ∧ Below w.heap.size w w' := by
  have hpad := pads
  have heq := eq_num
  have hes := eq4_self
  have h00 := eq4_self 0 0 0 0
  go_enter Try.func6, Try.ntmps6
  go_upto_region 1 with fail
  go_cut [7, 8] from 9 to 15 (fun s7 s8 wx => ∃ B0 B1, s7 = .pointer (some ⟨B0, 0, none⟩) ∧ s8 = .pointer (some ⟨B1, 0, none⟩) ∧ w.heap.size < B0 ∧ w.heap.size < B1 ∧ B0 < wx.heap.size ∧ B1 < wx.heap.size ∧ Below w.heap.size w wx ∧ wx.heap[w.heap.size]? = some (.cells #[.int .u64 x0, .int .u64 x1, .int .u64 x2, .int .u64 x3] 24 (0, 0)) ∧ wx.heap[B0]? = some (.cells #[.int .u64 r0, .int .u64 r1, .int .u64 r2, .int .u64 r3] 24 (0, 0)) ∧ wx.heap[B1]? = some (.cells #[.int .u64 v0, .int .u64 v1, .int .u64 v2, .int .u64 v3] 24 (0, 0)))
  case first =>
    go_region_held2 (fun W => W.cell? ⟨w.heap.size, 0, none⟩ = some (.int .u64 x0) ∧ W.cell? ⟨w.heap.size, 1, none⟩ = some (.int .u64 x1) ∧ W.cell? ⟨w.heap.size, 2, none⟩ = some (.int .u64 x2) ∧ W.cell? ⟨w.heap.size, 3, none⟩ = some (.int .u64 x3)) (go_simp) (first
      | (go_at_call 19; with_reducible refine (h1.at _).mono ?_; rintro e w' ⟨rfl, hb⟩; obtain ⟨m1, g1, d1, hm1, rfl⟩ := pad_of hb; clear hb; (try simp [pad_size] at hm1); have st1_w := sz1 (n := w.heap.size) (m := m1) (by omega); (try have sa1 := sz2 (n := w.heap.size + 1) (m := m1) (by omega)); (try have sc1 := sz1 (n := w.heap.size + 1) (m := m1) (by omega)); have sp1 := szp (n := w.heap.size) (m := m1) (by omega); (try have sb1_2 := sz2 (n := m2) (m := m1) (by omega)); (try have sd1_2 := sz1 (n := m2) (m := m1) (by omega)))
      | (go_at_call 19; with_reducible refine (h2.at _).mono ?_; rintro e w' ⟨rfl, hb⟩; obtain ⟨m2, g2, d2, hm2, rfl⟩ := pad_of hb; clear hb; (try simp [pad_size] at hm2); have st2_w := sz1 (n := w.heap.size) (m := m2) (by omega); (try have sa2 := sz2 (n := w.heap.size + 1) (m := m2) (by omega)); (try have sc2 := sz1 (n := w.heap.size + 1) (m := m2) (by omega)); have sp2 := szp (n := w.heap.size) (m := m2) (by omega); (try have sb2_1 := sz2 (n := m1) (m := m2) (by omega)); (try have sd2_1 := sz1 (n := m1) (m := m2) (by omega))))
    all_goals (go_wp2_with fail; go_meet)
    all_goals exact ⟨_, _, rfl, rfl, (by first | omega | (simp [pad_size]; done) | (simp [pad_size]; omega)), (by first | omega | (simp [pad_size]; done) | (simp [pad_size]; omega)), (by first | omega | (simp [pad_size]; done) | (simp [pad_size]; omega)), (by first | omega | (simp [pad_size]; done) | (simp [pad_size]; omega)), by (repeat (first | (with_reducible exact Below.refl _ _) | (with_reducible assumption) | (with_reducible apply bd) | (with_reducible apply ba) | (with_reducible refine bp ?_ (by first | omega | (simp [pad_size]; done) | (simp [pad_size]; omega)) _ _) | (with_reducible refine bs ?_ (by first | omega | (simp [pad_size]; done) | (simp [pad_size]; omega)) _) | (with_reducible refine bt ?_ (by assumption)))), by (repeat (first | (with_reducible exact al_at (by simp [pad_size])) | (with_reducible refine Eq.trans (dr_blk _ _) ?_) | (with_reducible refine Eq.trans (al_old (by first | omega | (simp [pad_size]; done) | (simp [pad_size]; omega))) ?_) | (with_reducible refine Eq.trans (pad_block (by first | omega | (simp [pad_size]; done) | (simp [pad_size]; omega)) (by first | omega | (simp [pad_size]; done) | (simp [pad_size]; omega))) ?_) | (with_reducible assumption))), by (repeat (first | (with_reducible exact al_at (by simp [pad_size])) | (with_reducible refine Eq.trans (dr_blk _ _) ?_) | (with_reducible refine Eq.trans (al_old (by first | omega | (simp [pad_size]; done) | (simp [pad_size]; omega))) ?_) | (with_reducible refine Eq.trans (pad_block (by first | omega | (simp [pad_size]; done) | (simp [pad_size]; omega)) (by first | omega | (simp [pad_size]; done) | (simp [pad_size]; omega))) ?_) | (with_reducible assumption))), by (repeat (first | (with_reducible exact al_at (by simp [pad_size])) | (with_reducible refine Eq.trans (dr_blk _ _) ?_) | (with_reducible refine Eq.trans (al_old (by first | omega | (simp [pad_size]; done) | (simp [pad_size]; omega))) ?_) | (with_reducible refine Eq.trans (pad_block (by first | omega | (simp [pad_size]; done) | (simp [pad_size]; omega)) (by first | omega | (simp [pad_size]; done) | (simp [pad_size]; omega))) ?_) | (with_reducible assumption)))⟩
  case rest =>
    obtain ⟨B0, B1, rfl, rfl, hB0, hB1, hB0x, hB1x, hbw, q0, q1, q2⟩ := hcut
    obtain ⟨cq0, fq0⟩ := cells_of_block q0
    obtain ⟨cq1, fq1⟩ := cells_of_block q1
    obtain ⟨cq2, fq2⟩ := cells_of_block q2
    have z0 : w.heap.size < wc.heap.size := by omega
    go_upto_region 2 with fail
    have hK : Hid (∀ W, Below wc.heap.size wc W → (W.cell? ⟨w.heap.size, 0, none⟩ = some (.int .u64 x0) ∧ W.cell? ⟨w.heap.size, 1, none⟩ = some (.int .u64 x1) ∧ W.cell? ⟨w.heap.size, 2, none⟩ = some (.int .u64 x2) ∧ W.cell? ⟨w.heap.size, 3, none⟩ = some (.int .u64 x3) ∧ W.cell? ⟨B0, 0, none⟩ = some (.int .u64 r0) ∧ W.cell? ⟨B0, 1, none⟩ = some (.int .u64 r1) ∧ W.cell? ⟨B0, 2, none⟩ = some (.int .u64 r2) ∧ W.cell? ⟨B0, 3, none⟩ = some (.int .u64 r3) ∧ W.cell? ⟨B1, 0, none⟩ = some (.int .u64 v0) ∧ W.cell? ⟨B1, 1, none⟩ = some (.int .u64 v1) ∧ W.cell? ⟨B1, 2, none⟩ = some (.int .u64 v2) ∧ W.cell? ⟨B1, 3, none⟩ = some (.int .u64 v3))) := by
      intro W hW
      have r0 := (cells_of_block ((hW.block _ z0).trans q0)).1
      have r1 := (cells_of_block ((hW.block _ hB0x).trans q1)).1
      have r2 := (cells_of_block ((hW.block _ hB1x).trans q2)).1
      simp [r0, r1, r2]
    go_region_held2 (fun W => W.cell? ⟨w.heap.size, 0, none⟩ = some (.int .u64 x0) ∧ W.cell? ⟨w.heap.size, 1, none⟩ = some (.int .u64 x1) ∧ W.cell? ⟨w.heap.size, 2, none⟩ = some (.int .u64 x2) ∧ W.cell? ⟨w.heap.size, 3, none⟩ = some (.int .u64 x3) ∧ W.cell? ⟨B0, 0, none⟩ = some (.int .u64 r0) ∧ W.cell? ⟨B0, 1, none⟩ = some (.int .u64 r1) ∧ W.cell? ⟨B0, 2, none⟩ = some (.int .u64 r2) ∧ W.cell? ⟨B0, 3, none⟩ = some (.int .u64 r3) ∧ W.cell? ⟨B1, 0, none⟩ = some (.int .u64 v0) ∧ W.cell? ⟨B1, 1, none⟩ = some (.int .u64 v1) ∧ W.cell? ⟨B1, 2, none⟩ = some (.int .u64 v2) ∧ W.cell? ⟨B1, 3, none⟩ = some (.int .u64 v3)) (exact hK.out _ (by (repeat (first | (with_reducible exact Below.refl _ _) | (with_reducible assumption) | (with_reducible apply bd) | (with_reducible apply ba) | (with_reducible refine bp ?_ (by first | omega | (simp [pad_size]; done) | (simp [pad_size]; omega)) _ _) | (with_reducible refine bs ?_ (by first | omega | (simp [pad_size]; done) | (simp [pad_size]; omega)) _) | (with_reducible refine bt ?_ (by assumption)))))) (first
      | (go_at_call 20; with_reducible refine (h3.at _).mono ?_; rintro e w' ⟨rfl, hb⟩; obtain ⟨m3, g3, d3, hm3, rfl⟩ := pad_of hb; clear hb; (try simp [pad_size] at hm3))
      | (go_at_call 18; with_reducible refine (h4.at _).mono ?_; rintro e w' ⟨rfl, hb⟩; obtain ⟨m4, g4, d4, hm4, rfl⟩ := pad_of hb; clear hb; (try simp [pad_size] at hm4)))
    all_goals go_upto_region 4 with fail
    all_goals go_region_held2 (fun W => W.cell? ⟨w.heap.size, 0, none⟩ = some (.int .u64 x0) ∧ W.cell? ⟨w.heap.size, 1, none⟩ = some (.int .u64 x1) ∧ W.cell? ⟨w.heap.size, 2, none⟩ = some (.int .u64 x2) ∧ W.cell? ⟨w.heap.size, 3, none⟩ = some (.int .u64 x3) ∧ W.cell? ⟨B0, 0, none⟩ = some (.int .u64 r0) ∧ W.cell? ⟨B0, 1, none⟩ = some (.int .u64 r1) ∧ W.cell? ⟨B0, 2, none⟩ = some (.int .u64 r2) ∧ W.cell? ⟨B0, 3, none⟩ = some (.int .u64 r3) ∧ W.cell? ⟨B1, 0, none⟩ = some (.int .u64 v0) ∧ W.cell? ⟨B1, 1, none⟩ = some (.int .u64 v1) ∧ W.cell? ⟨B1, 2, none⟩ = some (.int .u64 v2) ∧ W.cell? ⟨B1, 3, none⟩ = some (.int .u64 v3)) (exact hK.out _ (by (repeat (first | (with_reducible exact Below.refl _ _) | (with_reducible assumption) | (with_reducible apply bd) | (with_reducible apply ba) | (with_reducible refine bp ?_ (by first | omega | (simp [pad_size]; done) | (simp [pad_size]; omega)) _ _) | (with_reducible refine bs ?_ (by first | omega | (simp [pad_size]; done) | (simp [pad_size]; omega)) _) | (with_reducible refine bt ?_ (by assumption)))))) (first
      | (go_at_call 10; with_reducible refine (says_worths.at _).mono ?_; rintro e w' ⟨rfl, hb⟩; obtain ⟨m5, g5, d5, hm5, rfl⟩ := pad_of hb; clear hb; (try simp [pad_size] at hm5))
      | (go_at_call 18; with_reducible refine (h5.at _).mono ?_; rintro e w' ⟨rfl, hb⟩; obtain ⟨m6, g6, d6, hm6, rfl⟩ := pad_of hb; clear hb; (try simp [pad_size] at hm6))
      | (go_at_call 19; with_reducible refine (h6.at _).mono ?_; rintro e w' ⟨rfl, hb⟩; obtain ⟨m7, g7, d7, hm7, rfl⟩ := pad_of hb; clear hb; (try simp [pad_size] at hm7))
      | (go_at_call 19; with_reducible refine (h7.at _).mono ?_; rintro e w' ⟨rfl, hb⟩; obtain ⟨m8, g8, d8, hm8, rfl⟩ := pad_of hb; clear hb; (try simp [pad_size] at hm8)))
    all_goals go_wp2
    all_goals go_ret
    all_goals exact ⟨rfl, bt hbw (by (repeat (first | (with_reducible exact Below.refl _ _) | (with_reducible assumption) | (with_reducible apply bd) | (with_reducible apply ba) | (with_reducible refine bp ?_ (by first | omega | (simp [pad_size]; done) | (simp [pad_size]; omega)) _ _) | (with_reducible refine bs ?_ (by first | omega | (simp [pad_size]; done) | (simp [pad_size]; omega)) _) | (with_reducible refine bt ?_ (by assumption)))))⟩
set_option maxRecDepth 100000 in
set_option maxHeartbeats 4000000 in
theorem shareParts_gt {x0 x1 x2 x3 r0 r1 r2 r3 v0 v1 v2 v3 p o c d : Int} (h1 : Says 19 #[.agg #[.int .u64 x0, .int .u64 x1, .int .u64 x2, .int .u64 x3], .int .u16 p] (.agg #[.int .u64 r0, .int .u64 r1, .int .u64 r2, .int .u64 r3])) (h2 : Says 19 #[.agg #[.int .u64 x0, .int .u64 x1, .int .u64 x2, .int .u64 x3], .int .u16 o] (.agg #[.int .u64 v0, .int .u64 v1, .int .u64 v2, .int .u64 v3])) (h3 : Says 20 #[.agg #[.int .u64 x0, .int .u64 x1, .int .u64 x2, .int .u64 x3], .int .u16 p] (.agg #[.int .u64 r0, .int .u64 r1, .int .u64 r2, .int .u64 r3])) (h4 : Says 18 #[.agg #[.int .u64 r0, .int .u64 r1, .int .u64 r2, .int .u64 r3], .agg #[.int .u64 v0, .int .u64 v1, .int .u64 v2, .int .u64 v3]] (.int .i64 c)) (h5 : Says 18 #[.agg #[.int .u64 r0, .int .u64 r1, .int .u64 r2, .int .u64 r3], .agg #[.int .u64 x0, .int .u64 x1, .int .u64 x2, .int .u64 x3]] (.int .i64 d)) (h6 : Says 19 #[.agg #[.int .u64 x0, .int .u64 x1, .int .u64 x2, .int .u64 x3], .int .u16 0] (.agg #[.int .u64 0, .int .u64 0, .int .u64 0, .int .u64 0])) (h7 : Says 19 #[.agg #[.int .u64 x0, .int .u64 x1, .int .u64 x2, .int .u64 x3], .int .u16 10000] (.agg #[.int .u64 x0, .int .u64 x1, .int .u64 x2, .int .u64 x3])) (hpo : decide (p ≤ o) = false) (hd : decide (d ≤ 0) = true) (w : World) :
    Calls Try.prog 6 #[.agg #[.int .u64 x0, .int .u64 x1, .int .u64 x2, .int .u64 x3], .int .u16 p, .int .u16 o] w fun e w' => e = .returned (.bool true) ∧ Below w.heap.size w w' := by
  have hpad := pads
  have heq := eq_num
  have hes := eq4_self
  have h00 := eq4_self 0 0 0 0
  go_enter Try.func6, Try.ntmps6
  go_upto_region 1 with fail
  go_cut [7, 8] from 9 to 15 (fun s7 s8 wx => ∃ B0 B1, s7 = .pointer (some ⟨B0, 0, none⟩) ∧ s8 = .pointer (some ⟨B1, 0, none⟩) ∧ w.heap.size < B0 ∧ w.heap.size < B1 ∧ B0 < wx.heap.size ∧ B1 < wx.heap.size ∧ Below w.heap.size w wx ∧ wx.heap[w.heap.size]? = some (.cells #[.int .u64 x0, .int .u64 x1, .int .u64 x2, .int .u64 x3] 24 (0, 0)) ∧ wx.heap[B0]? = some (.cells #[.int .u64 r0, .int .u64 r1, .int .u64 r2, .int .u64 r3] 24 (0, 0)) ∧ wx.heap[B1]? = some (.cells #[.int .u64 v0, .int .u64 v1, .int .u64 v2, .int .u64 v3] 24 (0, 0)))
  case first =>
    go_region_held2 (fun W => W.cell? ⟨w.heap.size, 0, none⟩ = some (.int .u64 x0) ∧ W.cell? ⟨w.heap.size, 1, none⟩ = some (.int .u64 x1) ∧ W.cell? ⟨w.heap.size, 2, none⟩ = some (.int .u64 x2) ∧ W.cell? ⟨w.heap.size, 3, none⟩ = some (.int .u64 x3)) (go_simp) (first
      | (go_at_call 19; with_reducible refine (h1.at _).mono ?_; rintro e w' ⟨rfl, hb⟩; obtain ⟨m1, g1, d1, hm1, rfl⟩ := pad_of hb; clear hb; (try simp [pad_size] at hm1); have st1_w := sz1 (n := w.heap.size) (m := m1) (by omega); (try have sa1 := sz2 (n := w.heap.size + 1) (m := m1) (by omega)); (try have sc1 := sz1 (n := w.heap.size + 1) (m := m1) (by omega)); have sp1 := szp (n := w.heap.size) (m := m1) (by omega); (try have sb1_2 := sz2 (n := m2) (m := m1) (by omega)); (try have sd1_2 := sz1 (n := m2) (m := m1) (by omega)))
      | (go_at_call 19; with_reducible refine (h2.at _).mono ?_; rintro e w' ⟨rfl, hb⟩; obtain ⟨m2, g2, d2, hm2, rfl⟩ := pad_of hb; clear hb; (try simp [pad_size] at hm2); have st2_w := sz1 (n := w.heap.size) (m := m2) (by omega); (try have sa2 := sz2 (n := w.heap.size + 1) (m := m2) (by omega)); (try have sc2 := sz1 (n := w.heap.size + 1) (m := m2) (by omega)); have sp2 := szp (n := w.heap.size) (m := m2) (by omega); (try have sb2_1 := sz2 (n := m1) (m := m2) (by omega)); (try have sd2_1 := sz1 (n := m1) (m := m2) (by omega))))
    all_goals (go_wp2_with fail; go_meet)
    all_goals exact ⟨_, _, rfl, rfl, (by first | omega | (simp [pad_size]; done) | (simp [pad_size]; omega)), (by first | omega | (simp [pad_size]; done) | (simp [pad_size]; omega)), (by first | omega | (simp [pad_size]; done) | (simp [pad_size]; omega)), (by first | omega | (simp [pad_size]; done) | (simp [pad_size]; omega)), by (repeat (first | (with_reducible exact Below.refl _ _) | (with_reducible assumption) | (with_reducible apply bd) | (with_reducible apply ba) | (with_reducible refine bp ?_ (by first | omega | (simp [pad_size]; done) | (simp [pad_size]; omega)) _ _) | (with_reducible refine bs ?_ (by first | omega | (simp [pad_size]; done) | (simp [pad_size]; omega)) _) | (with_reducible refine bt ?_ (by assumption)))), by (repeat (first | (with_reducible exact al_at (by simp [pad_size])) | (with_reducible refine Eq.trans (dr_blk _ _) ?_) | (with_reducible refine Eq.trans (al_old (by first | omega | (simp [pad_size]; done) | (simp [pad_size]; omega))) ?_) | (with_reducible refine Eq.trans (pad_block (by first | omega | (simp [pad_size]; done) | (simp [pad_size]; omega)) (by first | omega | (simp [pad_size]; done) | (simp [pad_size]; omega))) ?_) | (with_reducible assumption))), by (repeat (first | (with_reducible exact al_at (by simp [pad_size])) | (with_reducible refine Eq.trans (dr_blk _ _) ?_) | (with_reducible refine Eq.trans (al_old (by first | omega | (simp [pad_size]; done) | (simp [pad_size]; omega))) ?_) | (with_reducible refine Eq.trans (pad_block (by first | omega | (simp [pad_size]; done) | (simp [pad_size]; omega)) (by first | omega | (simp [pad_size]; done) | (simp [pad_size]; omega))) ?_) | (with_reducible assumption))), by (repeat (first | (with_reducible exact al_at (by simp [pad_size])) | (with_reducible refine Eq.trans (dr_blk _ _) ?_) | (with_reducible refine Eq.trans (al_old (by first | omega | (simp [pad_size]; done) | (simp [pad_size]; omega))) ?_) | (with_reducible refine Eq.trans (pad_block (by first | omega | (simp [pad_size]; done) | (simp [pad_size]; omega)) (by first | omega | (simp [pad_size]; done) | (simp [pad_size]; omega))) ?_) | (with_reducible assumption)))⟩
  case rest =>
    obtain ⟨B0, B1, rfl, rfl, hB0, hB1, hB0x, hB1x, hbw, q0, q1, q2⟩ := hcut
    obtain ⟨cq0, fq0⟩ := cells_of_block q0
    obtain ⟨cq1, fq1⟩ := cells_of_block q1
    obtain ⟨cq2, fq2⟩ := cells_of_block q2
    have z0 : w.heap.size < wc.heap.size := by omega
    go_upto_region 2 with fail
    have hK : Hid (∀ W, Below wc.heap.size wc W → (W.cell? ⟨w.heap.size, 0, none⟩ = some (.int .u64 x0) ∧ W.cell? ⟨w.heap.size, 1, none⟩ = some (.int .u64 x1) ∧ W.cell? ⟨w.heap.size, 2, none⟩ = some (.int .u64 x2) ∧ W.cell? ⟨w.heap.size, 3, none⟩ = some (.int .u64 x3) ∧ W.cell? ⟨B0, 0, none⟩ = some (.int .u64 r0) ∧ W.cell? ⟨B0, 1, none⟩ = some (.int .u64 r1) ∧ W.cell? ⟨B0, 2, none⟩ = some (.int .u64 r2) ∧ W.cell? ⟨B0, 3, none⟩ = some (.int .u64 r3) ∧ W.cell? ⟨B1, 0, none⟩ = some (.int .u64 v0) ∧ W.cell? ⟨B1, 1, none⟩ = some (.int .u64 v1) ∧ W.cell? ⟨B1, 2, none⟩ = some (.int .u64 v2) ∧ W.cell? ⟨B1, 3, none⟩ = some (.int .u64 v3))) := by
      intro W hW
      have r0 := (cells_of_block ((hW.block _ z0).trans q0)).1
      have r1 := (cells_of_block ((hW.block _ hB0x).trans q1)).1
      have r2 := (cells_of_block ((hW.block _ hB1x).trans q2)).1
      simp [r0, r1, r2]
    go_region_with (first
      | (go_at_call 20; with_reducible refine (h3.at _).mono ?_; rintro e w' ⟨rfl, hb⟩; obtain ⟨m3, g3, d3, hm3, rfl⟩ := pad_of hb; clear hb; (try simp [pad_size] at hm3); have s3a := szw z0 hm3; have s3b := szw hB0x hm3; have s3c := szw hB1x hm3))
    all_goals go_upto_region 4 with fail
    all_goals go_region_held2 (fun W => W.cell? ⟨w.heap.size, 0, none⟩ = some (.int .u64 x0) ∧ W.cell? ⟨w.heap.size, 1, none⟩ = some (.int .u64 x1) ∧ W.cell? ⟨w.heap.size, 2, none⟩ = some (.int .u64 x2) ∧ W.cell? ⟨w.heap.size, 3, none⟩ = some (.int .u64 x3) ∧ W.cell? ⟨B0, 0, none⟩ = some (.int .u64 r0) ∧ W.cell? ⟨B0, 1, none⟩ = some (.int .u64 r1) ∧ W.cell? ⟨B0, 2, none⟩ = some (.int .u64 r2) ∧ W.cell? ⟨B0, 3, none⟩ = some (.int .u64 r3) ∧ W.cell? ⟨B1, 0, none⟩ = some (.int .u64 v0) ∧ W.cell? ⟨B1, 1, none⟩ = some (.int .u64 v1) ∧ W.cell? ⟨B1, 2, none⟩ = some (.int .u64 v2) ∧ W.cell? ⟨B1, 3, none⟩ = some (.int .u64 v3)) (exact hK.out _ (by (repeat (first | (with_reducible exact Below.refl _ _) | (with_reducible assumption) | (with_reducible apply bd) | (with_reducible apply ba) | (with_reducible refine bp ?_ (by first | omega | (simp [pad_size]; done) | (simp [pad_size]; omega)) _ _) | (with_reducible refine bs ?_ (by first | omega | (simp [pad_size]; done) | (simp [pad_size]; omega)) _) | (with_reducible refine bt ?_ (by assumption)))))) (first
      | (go_at_call 10; with_reducible refine (says_worths.at _).mono ?_; rintro e w' ⟨rfl, hb⟩; obtain ⟨m5, g5, d5, hm5, rfl⟩ := pad_of hb; clear hb; (try simp [pad_size] at hm5))
      | (go_at_call 18; with_reducible refine (h5.at _).mono ?_; rintro e w' ⟨rfl, hb⟩; obtain ⟨m6, g6, d6, hm6, rfl⟩ := pad_of hb; clear hb; (try simp [pad_size] at hm6))
      | (go_at_call 19; with_reducible refine (h6.at _).mono ?_; rintro e w' ⟨rfl, hb⟩; obtain ⟨m7, g7, d7, hm7, rfl⟩ := pad_of hb; clear hb; (try simp [pad_size] at hm7))
      | (go_at_call 19; with_reducible refine (h7.at _).mono ?_; rintro e w' ⟨rfl, hb⟩; obtain ⟨m8, g8, d8, hm8, rfl⟩ := pad_of hb; clear hb; (try simp [pad_size] at hm8)))
    all_goals go_wp2
    all_goals go_ret
    all_goals exact ⟨rfl, bt hbw (by (repeat (first | (with_reducible exact Below.refl _ _) | (with_reducible assumption) | (with_reducible apply bd) | (with_reducible apply ba) | (with_reducible refine bp ?_ (by first | omega | (simp [pad_size]; done) | (simp [pad_size]; omega)) _ _) | (with_reducible refine bs ?_ (by first | omega | (simp [pad_size]; done) | (simp [pad_size]; omega)) _) | (with_reducible refine bt ?_ (by assumption)))))⟩

theorem shareParts_any (x0 x1 x2 x3 p o : Int) (hx : Lim x0 x1 x2 x3) (hp : 0 ≤ p ∧ p < 65536) (ho : 0 ≤ o ∧ o < 65536) (w : World) :
    Calls Try.prog 6 #[.agg #[.int .u64 x0, .int .u64 x1, .int .u64 x2, .int .u64 x3], .int .u16 p, .int .u16 o] w fun e w' => e = .returned (.bool true) ∧ Below w.heap.size w w' := by
  have x0' := val_lo hx
  have xh := val_hi hx
  have lp := part_lim x0' hp.1
  have lo := part_lim x0' ho.1
  obtain ⟨r0, r1, r2, r3, hr, er⟩ := limbs_of lp.1 (by omega)
  obtain ⟨v0, v1, v2, v3, hv, ev⟩ := limbs_of lo.1 (by omega)
  have h6 := says_partV hx lim_zero (p := 0) (by omega) (by rw [val0, partI, least_of_le (by omega)]; simp)
  have h7 := says_partV hx hx (p := 10000) (by omega) (by rw [partI, least_of_le (by omega), Int.mul_ediv_cancel _ (by omega)])
  by_cases h : p ≤ o
  · exact shareParts_le (says_partV hx hr hp er) (says_partV hx hv ho ev) (says_partRV hx hr hp er) (says_cmpR hr hv rfl) (says_cmpR hr hx rfl) h6 h7 (decide_eq_true h) (decide_eq_true (cmp_le0 (by rw [er]; exact lp.2))) (decide_eq_false (by have := part_mono x0' h; unfold cmpI; split; omega; rw [if_neg (by omega)]; omega)) w
  · exact shareParts_gt (says_partV hx hr hp er) (says_partV hx hv ho ev) (says_partRV hx hr hp er) (says_cmpR hr hv rfl) (says_cmpR hr hx rfl) h6 h7 (decide_eq_false h) (decide_eq_true (cmp_le0 (by rw [er]; exact lp.2))) w

theorem shareParts_own : ownKnob Try.prog.godebug = none := by kernel_rfl
theorem shareParts_laid : laidOutB Try.prog = true := by kernel_rfl

set_option maxRecDepth 100000 in
theorem shareParts_lifted (os : Os) (started : os.Started) (H : Type) (enc : TypeId × Value → H) :
    ReturnsInHanded {} Try.checked os 6 .any (Rows.sharePartsSpec.pre6 enc Try.prog Try.f6 Rows.sharePartsRow.domain false) (Rows.sharePartsSpec.post enc Try.prog Try.f6 false true false false) := by
  refine returnsInHanded_of_change (C := Try.checked) shareParts_own started (by kernel_rfl) Try.func6
    (ChangeSpec.witness6 (enc := enc) (C := Try.checked) false ⟨#[], #[.agg #[.int .u64 0, .int .u64 0, .int .u64 0, .int .u64 0], .int .u16 0, .int .u16 0], []⟩ 8 (by kernel_rfl) (by kernel_rfl) (by kernel_rfl) (by kernel_rfl)) ?_
  intro W base args ds gs before hval0 hW hcnd _
  have hval : ∀ (j : Nat) t v, Try.f6.params[j]? = some t → args[j]? = some v → Value.okWide Try.prog W .any base t v := hval0
  have hW' := hW
  obtain ⟨p, q, hA0, hV, rfl, hfz, hnd⟩ := hW
  have hA : DataW.TrodAll enc Try.prog W 0 (fun _ => true) true Try.f6.params.toList args.toList ds p := hA0
  rw [Try.params6] at hA hval
  obtain ⟨v0, vs0, d0, ds0, p0, q0, hargs0, rfl, rfl, h0, r0⟩ := trodAll_cons hA
  obtain ⟨v1, vs1, d1, ds1, p1, q1, hargs1, rfl, rfl, h1, r1⟩ := trodAll_cons r0
  obtain ⟨v2, vs2, d2, ds2, p2, q2, hargs2, rfl, rfl, h2, r2⟩ := trodAll_cons r1
  obtain ⟨rfl, rfl, rfl⟩ := trodAll_nil r2
  obtain rfl : args = #[v0, v1, v2] := by cases args; simp_all
  obtain ⟨rfl, rfl⟩ := trodVars_none hV
  have k0 := h0
  have lt0 : ∀ x ∈ p0, x.block < W.heap.size := by obtain ⟨m, hm⟩ := k0; exact DataW.trod_lt m _ _ _ hm
  have k1 := h1
  have lt1 : ∀ x ∈ p1, x.block < W.heap.size := by obtain ⟨m, hm⟩ := k1; exact DataW.trod_lt m _ _ _ hm
  have k2 := h2
  have lt2 : ∀ x ∈ p2, x.block < W.heap.size := by obtain ⟨m, hm⟩ := k2; exact DataW.trod_lt m _ _ _ hm
  obtain ⟨x0, x1, x2, x3, rfl, hx⟩ := num_in (hval 0 24 v0 rfl rfl) h0
  obtain ⟨n1, rfl⟩ := okWide_int Try.underlying33 (hval 1 33 v1 rfl rfl)
  obtain ⟨fuel1, hf1⟩ := h1
  simp only [Value.cells] at hf1
  obtain ⟨n2, rfl⟩ := okWide_int Try.underlying33 (hval 2 33 v2 rfl rfl)
  obtain ⟨fuel2, hf2⟩ := h2
  simp only [Value.cells] at hf2
  clear hA0 hval0
  have walk : Calls Try.prog 6 _ W fun e w' => e = .returned (.bool true) ∧ Below W.heap.size W w' := shareParts_any x0 x1 x2 x3 n1 n2 hx (u16_in hf1) (u16_in hf2) W
  refine walk.mono fun e W' ⟨he, bel⟩ => ?_
  subst he
  exact ⟨_, rfl, _, _, _, [], _, [], hW', trodAll_mk1 (shut_bool Try.underlying4 _), trodAll_cons_mk (Below.trod shareParts_laid (by kernel_rfl) (of_decide_eq_true (by kernel_rfl)) k0 bel lt0) (trodAll_cons_mk (Below.trod shareParts_laid (by kernel_rfl) (of_decide_eq_true (by kernel_rfl)) k1 bel lt1) (trodAll_cons_mk (Below.trod shareParts_laid (by kernel_rfl) (of_decide_eq_true (by kernel_rfl)) k2 bel lt2) (trodAll_mk0))), rfl, bel.frame _, fun h => by cases h⟩

theorem shareParts_holds : Rows.SharePartsSaid :=
  OpenClaim.holds_of_wide 6 Try.f6 rfl rfl rfl rfl rfl rfl rfl ⟨rfl, rfl, rfl, rfl, rfl⟩ rfl rfl rfl rfl rfl (by kernel_rfl) Try.func6 (by kernel_rfl)
    (of_decide_eq_true (by kernel_rfl)) (by unfold Func.isWrapper; first | (rw [if_pos (by decide +kernel)]; kernel_rfl) | (rw [if_neg (by decide +kernel)]; exact ⟨rfl, rfl⟩))
    (fun os started H enc _ => shareParts_lifted os started H enc)
#print axioms shareParts_holds
end Go.Proofs.Ytligkenemocdbaa
