
/- hold's Spend and Back where the answers of what they call are known; two holds held against each other. -/
import Derived.Test.YtpddeihghjjmfaaF2
set_option linter.unusedSimpArgs false
set_option linter.unusedVariables false
namespace Go.Proofs.Ytpddeihghjjmfaa
open Go.RowKit

def eq8 (a0 a1 a2 a3 b0 b1 b2 b3 x0 x1 x2 x3 y0 y1 y2 y3 : Int) : Bool := eq4 a0 a1 a2 a3 x0 x1 x2 x3 && eq4 b0 b1 b2 b3 y0 y1 y2 y3
theorem eq8_self (a0 a1 a2 a3 b0 b1 b2 b3 : Int) : eq8 a0 a1 a2 a3 b0 b1 b2 b3 a0 a1 a2 a3 b0 b1 b2 b3 = true := by simp [eq8, eq4_self]
set_option maxRecDepth 20000 in
/-- Two holds held against each other as a whole. -/
theorem eq_hold (a0 a1 a2 a3 b0 b1 b2 b3 x0 x1 x2 x3 y0 y1 y2 y3 : Int) (w : World) : (Op.equalIn 10000 26 (.agg #[.int .u64 a0, .int .u64 a1, .int .u64 a2, .int .u64 a3, .int .u64 b0, .int .u64 b1, .int .u64 b2, .int .u64 b3]) (.agg #[.int .u64 x0, .int .u64 x1, .int .u64 x2, .int .u64 x3, .int .u64 y0, .int .u64 y1, .int .u64 y2, .int .u64 y3])).run Try.prog w = .ok (eq8 a0 a1 a2 a3 b0 b1 b2 b3 x0 x1 x2 x3 y0 y1 y2 y3) w := by
  have hn := eq_numD 9997
  have p0 : ∀ (c0 c1 c2 c3 c4 c5 c6 c7 : Value) w, (part 24 #[c0, c1, c2, c3, c4, c5, c6, c7] 0).run Try.prog w = .ok (.agg #[c0, c1, c2, c3]) w := fun _ _ _ _ _ _ _ _ _ => rfl
  have p1 : ∀ (c0 c1 c2 c3 c4 c5 c6 c7 : Value) w, (part 24 #[c0, c1, c2, c3, c4, c5, c6, c7] 4).run Try.prog w = .ok (.agg #[c4, c5, c6, c7]) w := fun _ _ _ _ _ _ _ _ _ => rfl
  rw [run_equalIn_struct w 9999 26 _ _ rfl (by kernel_rfl)]
  simp only [Program.fieldsOf, Try.underlying26, Op.eqFields, Sem.run_bind, Sem.run_ite, p0, p1, hn, Result.andThen_ok]
  simp [eq8]
  cases eq4 a0 a1 a2 a3 x0 x1 x2 x3 <;> cases eq4 b0 b1 b2 b3 y0 y1 y2 y3 <;> rfl
set_option maxRecDepth 100000 in
set_option maxHeartbeats 4000000 in
theorem says_spend {b0 b1 b2 b3 l0 l1 l2 l3 k0 k1 k2 k3 o0 o1 o2 o3 r0 r1 r2 r3 : Int} (h1 : Says 21 #[.agg #[.int .u64 l0, .int .u64 l1, .int .u64 l2, .int .u64 l3], .agg #[.int .u64 k0, .int .u64 k1, .int .u64 k2, .int .u64 k3]] (.agg #[.int .u64 o0, .int .u64 o1, .int .u64 o2, .int .u64 o3])) (h2 : Says 21 #[.agg #[.int .u64 b0, .int .u64 b1, .int .u64 b2, .int .u64 b3], .agg #[.int .u64 o0, .int .u64 o1, .int .u64 o2, .int .u64 o3]] (.agg #[.int .u64 r0, .int .u64 r1, .int .u64 r2, .int .u64 r3])) : Says 13 #[.agg #[.int .u64 b0, .int .u64 b1, .int .u64 b2, .int .u64 b3], .agg #[.int .u64 l0, .int .u64 l1, .int .u64 l2, .int .u64 l3], .agg #[.int .u64 k0, .int .u64 k1, .int .u64 k2, .int .u64 k3]] (.agg #[.int .u64 r0, .int .u64 r1, .int .u64 r2, .int .u64 r3]) := by
  intro w
  have hpad := pads
  go_enter Try.func13, Try.ntmps13
  go_upto_region 1 with fail
  go_region_held2 (fun W => W.cell? ⟨w.heap.size, 0, none⟩ = some (.int .u64 b0) ∧ W.cell? ⟨w.heap.size, 1, none⟩ = some (.int .u64 b1) ∧ W.cell? ⟨w.heap.size, 2, none⟩ = some (.int .u64 b2) ∧ W.cell? ⟨w.heap.size, 3, none⟩ = some (.int .u64 b3) ∧ W.cell? ⟨w.heap.size + 1, 0, none⟩ = some (.int .u64 l0) ∧ W.cell? ⟨w.heap.size + 1, 1, none⟩ = some (.int .u64 l1) ∧ W.cell? ⟨w.heap.size + 1, 2, none⟩ = some (.int .u64 l2) ∧ W.cell? ⟨w.heap.size + 1, 3, none⟩ = some (.int .u64 l3) ∧ W.cell? ⟨w.heap.size + 1 + 1, 0, none⟩ = some (.int .u64 k0) ∧ W.cell? ⟨w.heap.size + 1 + 1, 1, none⟩ = some (.int .u64 k1) ∧ W.cell? ⟨w.heap.size + 1 + 1, 2, none⟩ = some (.int .u64 k2) ∧ W.cell? ⟨w.heap.size + 1 + 1, 3, none⟩ = some (.int .u64 k3)) (go_simp) (first
    | (go_at_call 21; with_reducible refine (h1.at _).mono ?_; rintro e w' ⟨rfl, hb⟩; obtain ⟨m1, g1, d1, hm1, rfl⟩ := pad_of hb; clear hb; (try simp [pad_size] at hm1); have st1_w := sz4 (n := w.heap.size) (m := m1) (by omega))
    | (go_at_call 21; with_reducible refine (h2.at _).mono ?_; rintro e w' ⟨rfl, hb⟩; obtain ⟨m2, g2, d2, hm2, rfl⟩ := pad_of hb; clear hb; (try simp [pad_size] at hm2); have st2_w := sz4 (n := w.heap.size) (m := m2) (by omega)))
  all_goals go_wp2
  all_goals refine bodyPost_ret (v := .agg #[.int .u64 r0, .int .u64 r1, .int .u64 r2, .int .u64 r3]) (by simp only [results, Try.results13]; go_simp) rfl ⟨rfl, by (repeat (first | (with_reducible exact Below.refl _ _) | (with_reducible assumption) | (with_reducible apply bd) | (with_reducible apply ba) | (with_reducible refine bp ?_ (by first | omega | (simp [pad_size]; done) | (simp [pad_size]; omega)) _ _) | (with_reducible refine bs ?_ (by first | omega | (simp [pad_size]; done) | (simp [pad_size]; omega)) _) | (with_reducible refine bt ?_ (by assumption))))⟩
set_option maxRecDepth 100000 in
set_option maxHeartbeats 4000000 in
theorem says_back {k0 k1 k2 k3 f0 f1 f2 f3 n0 n1 n2 n3 o0 o1 o2 o3 a0 a1 a2 a3 b0 b1 b2 b3 : Int} (h1 : Says 21 #[.agg #[.int .u64 n0, .int .u64 n1, .int .u64 n2, .int .u64 n3], .agg #[.int .u64 f0, .int .u64 f1, .int .u64 f2, .int .u64 f3]] (.agg #[.int .u64 o0, .int .u64 o1, .int .u64 o2, .int .u64 o3])) (h2 : Says 21 #[.agg #[.int .u64 k0, .int .u64 k1, .int .u64 k2, .int .u64 k3], .agg #[.int .u64 o0, .int .u64 o1, .int .u64 o2, .int .u64 o3]] (.agg #[.int .u64 a0, .int .u64 a1, .int .u64 a2, .int .u64 a3])) (h3 : Says 21 #[.agg #[.int .u64 f0, .int .u64 f1, .int .u64 f2, .int .u64 f3], .agg #[.int .u64 n0, .int .u64 n1, .int .u64 n2, .int .u64 n3]] (.agg #[.int .u64 b0, .int .u64 b1, .int .u64 b2, .int .u64 b3])) : Says 11 #[.agg #[.int .u64 k0, .int .u64 k1, .int .u64 k2, .int .u64 k3, .int .u64 f0, .int .u64 f1, .int .u64 f2, .int .u64 f3], .agg #[.int .u64 n0, .int .u64 n1, .int .u64 n2, .int .u64 n3]] (.agg #[.int .u64 a0, .int .u64 a1, .int .u64 a2, .int .u64 a3, .int .u64 b0, .int .u64 b1, .int .u64 b2, .int .u64 b3]) := by
  intro w
  have hpad := pads
  go_enter Try.func11, Try.ntmps11
  go_upto_region 1 with fail
  go_region_held2 (fun W => W.cell? ⟨w.heap.size, 0, none⟩ = some (.int .u64 k0) ∧ W.cell? ⟨w.heap.size, 1, none⟩ = some (.int .u64 k1) ∧ W.cell? ⟨w.heap.size, 2, none⟩ = some (.int .u64 k2) ∧ W.cell? ⟨w.heap.size, 3, none⟩ = some (.int .u64 k3) ∧ W.cell? ⟨w.heap.size, 4, none⟩ = some (.int .u64 f0) ∧ W.cell? ⟨w.heap.size, 5, none⟩ = some (.int .u64 f1) ∧ W.cell? ⟨w.heap.size, 6, none⟩ = some (.int .u64 f2) ∧ W.cell? ⟨w.heap.size, 7, none⟩ = some (.int .u64 f3) ∧ W.cell? ⟨w.heap.size + 1, 0, none⟩ = some (.int .u64 n0) ∧ W.cell? ⟨w.heap.size + 1, 1, none⟩ = some (.int .u64 n1) ∧ W.cell? ⟨w.heap.size + 1, 2, none⟩ = some (.int .u64 n2) ∧ W.cell? ⟨w.heap.size + 1, 3, none⟩ = some (.int .u64 n3)) (go_simp) (first
    | (go_at_call 21; with_reducible refine (h1.at _).mono ?_; rintro e w' ⟨rfl, hb⟩; obtain ⟨m1, g1, d1, hm1, rfl⟩ := pad_of hb; clear hb; (try simp [pad_size] at hm1); have st1_w := sz3 (n := w.heap.size) (m := m1) (by omega))
    | (go_at_call 21; with_reducible refine (h2.at _).mono ?_; rintro e w' ⟨rfl, hb⟩; obtain ⟨m2, g2, d2, hm2, rfl⟩ := pad_of hb; clear hb; (try simp [pad_size] at hm2); have st2_w := sz3 (n := w.heap.size) (m := m2) (by omega))
    | (go_at_call 21; with_reducible refine (h3.at _).mono ?_; rintro e w' ⟨rfl, hb⟩; obtain ⟨m3, g3, d3, hm3, rfl⟩ := pad_of hb; clear hb; (try simp [pad_size] at hm3); have st3_w := sz3 (n := w.heap.size) (m := m3) (by omega)))
  all_goals go_wp2
  all_goals refine bodyPost_ret (v := .agg #[.int .u64 a0, .int .u64 a1, .int .u64 a2, .int .u64 a3, .int .u64 b0, .int .u64 b1, .int .u64 b2, .int .u64 b3]) (by simp only [results, Try.results11]; go_simp) rfl ⟨rfl, by (repeat (first | (with_reducible exact Below.refl _ _) | (with_reducible assumption) | (with_reducible apply bd) | (with_reducible apply ba) | (with_reducible refine bp ?_ (by first | omega | (simp [pad_size]; done) | (simp [pad_size]; omega)) _ _) | (with_reducible refine bs ?_ (by first | omega | (simp [pad_size]; done) | (simp [pad_size]; omega)) _) | (with_reducible refine bt ?_ (by assumption))))⟩
end Go.Proofs.Ytpddeihghjjmfaa
