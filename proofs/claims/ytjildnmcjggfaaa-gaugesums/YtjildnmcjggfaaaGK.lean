
/- gauge's Turn, Apart, Point and the reference's; a point as it is told. -/
import Derived.Test.YtjildnmcjggfaaaGJ
set_option linter.unusedSimpArgs false
set_option linter.unusedVariables false
namespace Go.Proofs.Ytjildnmcjggfaaa
open Go.RowKit

/-- A point, so many quarters turned. -/
def tw : Nat → Nat × Nat → Nat × Nat
  | 0, p => p
  | q + 1, p => (neg (tw q p).2, (tw q p).1)
theorem run_neg (b : Nat) (w : World) : (Op.unary .neg (.float .f64 b)).run Try.prog w = .ok (.float .f64 (neg b)) w := rfl
theorem st_float (a : Addr) (m : Mode) (k : FloatKind) (b : Nat) (w : World) : (store a (.float k b) m).run Try.prog w = stored Try.prog w a (.float k b) m := run_store Try.prog w a _ m rfl
def kq (k : Int) : Nat := (k % 4).toNat
theorem kq_cases (k : Int) : (kq k = 0 ∧ k % 4 = 0) ∨ (kq k = 1 ∧ k % 4 = 1) ∨ (kq k = 2 ∧ k % 4 = 2) ∨ (kq k = 3 ∧ k % 4 = 3) := by unfold kq; omega

set_option maxRecDepth 100000 in
set_option maxHeartbeats 1000000 in
theorem turn_any (a b : Nat) (k : Int) (w : World) : Calls Try.prog 21 #[.complex .f64 a b, .int .i64 k] w fun e w' => e = .returned (.complex .f64 (tw (kq k) (a, b)).1 (tw (kq k) (a, b)).2) ∧ w' = w := by
  have hn := run_neg
  have ha := i64_and3 k
  rcases kq_cases k with ⟨e, h⟩ | ⟨e, h⟩ | ⟨e, h⟩ | ⟨e, h⟩
  all_goals
    rw [e]
    rw [h] at ha
    go_enter Try.func21, Try.ntmps21
    go_wp2
    apply wp_loop_rounds 4
    simp only [Code.rounds]
    go_wp2
    go_ret
    exact ⟨rfl, rfl⟩
set_option maxRecDepth 100000 in
set_option maxHeartbeats 1000000 in
theorem turnR_any (a b : Nat) (k : Int) (w : World) : Calls Try.prog 22 #[.agg #[.float .f64 a, .float .f64 b], .int .i64 k] w fun e w' => e = .returned (.agg #[.float .f64 (tw (kq k) (a, b)).1, .float .f64 (tw (kq k) (a, b)).2]) ∧ Below w.heap.size w w' := by
  have hn := run_neg
  have hst := st_float
  have hpad := pads
  obtain ⟨r, hr⟩ : ∃ r, k.tmod 4 = r := ⟨_, rfl⟩
  have hr2 : r = if 0 ≤ k then k % 4 else -((-k) % 4) := by
    rw [← hr]
    split
    · rename_i h; exact Int.tmod_eq_emod_of_nonneg h
    · have h := Int.neg_tmod (-k) 4
      rw [Int.neg_neg, Int.tmod_eq_emod_of_nonneg (show 0 ≤ -k by omega)] at h
      exact h
  have hrl : -4 < r ∧ r < 4 ∧ (r + 4) % 4 = k % 4 := by rw [hr2]; split <;> omega
  clear hr2
  have hw : IntKind.i64.wrap (r + 4) = r + 4 := by rw [IntKind.wrap_i64]; omega
  have hq : (r + 4).tmod 4 = k % 4 := by
    rw [Int.tmod_eq_emod_of_nonneg (by omega)]; omega
  rcases kq_cases k with ⟨e, h⟩ | ⟨e, h⟩ | ⟨e, h⟩ | ⟨e, h⟩
  all_goals
    rw [e]
    rw [h] at hq
    go_enter Try.func22, Try.ntmps22
    go_wp2
    apply wp_loop_rounds 4
    simp only [Code.rounds]
    go_wp2
    first
      | refine bodyPost_ret (v := .agg #[.float .f64 a, .float .f64 b]) (by simp only [results, Try.results22]; go_simp) rfl ⟨rfl, by (repeat (first | (with_reducible exact Below.refl _ _) | (with_reducible assumption) | (with_reducible apply bd) | (with_reducible apply ba) | (with_reducible refine bp ?_ (by first | omega | (simp [pad_size]; done) | (simp [pad_size]; omega)) _ _) | (with_reducible refine bs ?_ (by first | omega | (simp [pad_size]; done) | (simp [pad_size]; omega)) _) | (with_reducible refine bt ?_ (by assumption))))⟩
      | refine bodyPost_ret (v := .agg #[.float .f64 (neg b), .float .f64 a]) (by simp only [results, Try.results22]; go_simp) rfl ⟨rfl, by (repeat (first | (with_reducible exact Below.refl _ _) | (with_reducible assumption) | (with_reducible apply bd) | (with_reducible apply ba) | (with_reducible refine bp ?_ (by first | omega | (simp [pad_size]; done) | (simp [pad_size]; omega)) _ _) | (with_reducible refine bs ?_ (by first | omega | (simp [pad_size]; done) | (simp [pad_size]; omega)) _) | (with_reducible refine bt ?_ (by assumption))))⟩
      | refine bodyPost_ret (v := .agg #[.float .f64 (neg a), .float .f64 (neg b)]) (by simp only [results, Try.results22]; go_simp) rfl ⟨rfl, by (repeat (first | (with_reducible exact Below.refl _ _) | (with_reducible assumption) | (with_reducible apply bd) | (with_reducible apply ba) | (with_reducible refine bp ?_ (by first | omega | (simp [pad_size]; done) | (simp [pad_size]; omega)) _ _) | (with_reducible refine bs ?_ (by first | omega | (simp [pad_size]; done) | (simp [pad_size]; omega)) _) | (with_reducible refine bt ?_ (by assumption))))⟩
      | refine bodyPost_ret (v := .agg #[.float .f64 (neg (neg b)), .float .f64 (neg a)]) (by simp only [results, Try.results22]; go_simp) rfl ⟨rfl, by (repeat (first | (with_reducible exact Below.refl _ _) | (with_reducible assumption) | (with_reducible apply bd) | (with_reducible apply ba) | (with_reducible refine bp ?_ (by first | omega | (simp [pad_size]; done) | (simp [pad_size]; omega)) _ _) | (with_reducible refine bs ?_ (by first | omega | (simp [pad_size]; done) | (simp [pad_size]; omega)) _) | (with_reducible refine bt ?_ (by assumption))))⟩
theorem of_point (a b : Nat) (w : World) : Calls Try.prog 23 #[.complex .f64 a b] w fun e w' => e = .returned (.agg #[.float .f64 a, .float .f64 b]) ∧ Below w.heap.size w w' := by
  have hpad := pads
  have hst := st_float
  go_enter Try.func23, Try.ntmps23
  go_wp2
  refine bodyPost_ret (v := .agg #[.float .f64 a, .float .f64 b]) (by simp only [results, Try.results23]; go_simp) rfl ⟨rfl, by (repeat (first | (with_reducible exact Below.refl _ _) | (with_reducible assumption) | (with_reducible apply bd) | (with_reducible apply ba) | (with_reducible refine bp ?_ (by first | omega | (simp [pad_size]; done) | (simp [pad_size]; omega)) _ _) | (with_reducible refine bs ?_ (by first | omega | (simp [pad_size]; done) | (simp [pad_size]; omega)) _) | (with_reducible refine bt ?_ (by assumption))))⟩
set_option maxHeartbeats 400000 in
theorem same_point {a b : Nat} (ha : (FloatKind.f64.format.order a a == some Ordering.eq) = true) (hb : (FloatKind.f64.format.order b b == some Ordering.eq) = true) (w : World) : Calls Try.prog 16 #[.agg #[.float .f64 a, .float .f64 b], .complex .f64 a b] w fun e w' => e = .returned (.bool true) ∧ Below w.heap.size w w' := by
  have hpad := pads
  have hst := st_float
  go_enter Try.func16, Try.ntmps16
  go_wp2
  go_ret
  exact ⟨rfl, by (repeat (first | (with_reducible exact Below.refl _ _) | (with_reducible assumption) | (with_reducible apply bd) | (with_reducible apply ba) | (with_reducible refine bp ?_ (by first | omega | (simp [pad_size]; done) | (simp [pad_size]; omega)) _ _) | (with_reducible refine bs ?_ (by first | omega | (simp [pad_size]; done) | (simp [pad_size]; omega)) _) | (with_reducible refine bt ?_ (by assumption))))⟩
set_option maxRecDepth 100000 in
set_option maxHeartbeats 1000000 in
theorem point_any {x0 x1 x2 x3 y0 y1 y2 y3 : Int} (hx : Lim x0 x1 x2 x3) (hy : Lim y0 y1 y2 y3) (w : World) : Calls Try.prog 17 #[.agg #[.int .u64 x0, .int .u64 x1, .int .u64 x2, .int .u64 x3], .agg #[.int .u64 y0, .int .u64 y1, .int .u64 y2, .int .u64 y3]] w fun e w' => e = .returned (.complex .f64 (fI (val x0 x1 x2 x3)) (fI (val y0 y1 y2 y3))) ∧ Below w.heap.size w w' := by
  have hpad := pads
  have h1 := float_any hx
  have h2 := float_any hy
  generalize fI (val x0 x1 x2 x3) = a at *
  generalize fI (val y0 y1 y2 y3) = b at *
  go_enter Try.func17, Try.ntmps17
  go_upto_region 1 with fail
  go_region_held2 (fun W => W.cell? ⟨w.heap.size, 0, none⟩ = some (.int .u64 x0) ∧ W.cell? ⟨w.heap.size, 1, none⟩ = some (.int .u64 x1) ∧ W.cell? ⟨w.heap.size, 2, none⟩ = some (.int .u64 x2) ∧ W.cell? ⟨w.heap.size, 3, none⟩ = some (.int .u64 x3) ∧ W.cell? ⟨w.heap.size + 1, 0, none⟩ = some (.int .u64 y0) ∧ W.cell? ⟨w.heap.size + 1, 1, none⟩ = some (.int .u64 y1) ∧ W.cell? ⟨w.heap.size + 1, 2, none⟩ = some (.int .u64 y2) ∧ W.cell? ⟨w.heap.size + 1, 3, none⟩ = some (.int .u64 y3)) (go_simp) (first
    | (go_at_call 12; with_reducible refine (h1 _).mono ?_; rintro e w' ⟨rfl, hb⟩; obtain ⟨m1, g1, d1, hm1, rfl⟩ := pad_of hb; clear hb; (try simp [pad_size] at hm1); have st1_w := sz2 (n := w.heap.size) (m := m1) (by omega))
    | (go_at_call 12; with_reducible refine (h2 _).mono ?_; rintro e w' ⟨rfl, hb⟩; obtain ⟨m2, g2, d2, hm2, rfl⟩ := pad_of hb; clear hb; (try simp [pad_size] at hm2); have st2_w := sz2 (n := w.heap.size) (m := m2) (by omega)))
  all_goals go_wp2
  all_goals go_ret
  all_goals exact ⟨rfl, by (repeat (first | (with_reducible exact Below.refl _ _) | (with_reducible assumption) | (with_reducible apply bd) | (with_reducible apply ba) | (with_reducible refine bp ?_ (by first | omega | (simp [pad_size]; done) | (simp [pad_size]; omega)) _ _) | (with_reducible refine bs ?_ (by first | omega | (simp [pad_size]; done) | (simp [pad_size]; omega)) _) | (with_reducible refine bt ?_ (by assumption))))⟩
/-- How far apart, as the steps that it takes. -/
structure Ap (a b c d r : Nat) : Prop where
  ex : ∃ d1 d2 u v : Nat, Ieee.double.sub a c = some d1 ∧ Ieee.double.sub b d = some d2 ∧ Ieee.double.mul d1 d1 = some u ∧ Ieee.double.mul d2 d2 = some v ∧ Ieee.double.add u v = some r
set_option maxHeartbeats 1000000 in
theorem apart_any {a b c d r : Nat} (h : Ap a b c d r) (w : World) : Calls Try.prog 24 #[.complex .f64 a b, .complex .f64 c d] w fun e w' => e = .returned (.float .f64 r) ∧ w' = w := by
  obtain ⟨d1, d2, u, v, h1, h2, h3, h4, h5⟩ := h.ex
  have k1 : ∀ w : World, (binOp .sub 36 (.complex .f64 a b) (.complex .f64 c d)).run Try.prog w = .ok (.complex .f64 d1 d2) w := fun w => run_complex_sum w .sub (.inr rfl) _ _ _ _ _ _ _ _ (by
    show (floatBits .sub .f64 a c).bind (fun re => (floatBits .sub .f64 b d).bind fun im => some (re, im)) = _
    rw [show floatBits .sub .f64 a c = some d1 from h1, show floatBits .sub .f64 b d = some d2 from h2]; rfl)
  have k2 : ∀ w : World, (binOp .mul 26 (.float .f64 d1) (.float .f64 d1)).run Try.prog w = .ok (.float .f64 u) w := fun w => run_float_arith w _ _ _ _ _ _ h3
  have k3 : ∀ w : World, (binOp .mul 26 (.float .f64 d2) (.float .f64 d2)).run Try.prog w = .ok (.float .f64 v) w := fun w => run_float_arith w _ _ _ _ _ _ h4
  have k4 : ∀ w : World, (binOp .add 26 (.float .f64 u) (.float .f64 v)).run Try.prog w = .ok (.float .f64 r) w := fun w => run_float_arith w _ _ _ _ _ _ h5
  go_enter Try.func24, Try.ntmps24
  go_wp2
  go_ret
  exact ⟨rfl, rfl⟩
set_option maxHeartbeats 1000000 in
theorem apartR_any {a b c d r : Nat} (h : Ap a b c d r) (w : World) : Calls Try.prog 25 #[.agg #[.float .f64 a, .float .f64 b], .agg #[.float .f64 c, .float .f64 d]] w fun e w' => e = .returned (.float .f64 r) ∧ Below w.heap.size w w' := by
  have hpad := pads
  obtain ⟨d1, d2, u, v, h1, h2, h3, h4, h5⟩ := h.ex
  have k0 : ∀ w : World, (binOp .sub 26 (.float .f64 a) (.float .f64 c)).run Try.prog w = .ok (.float .f64 d1) w := fun w => run_float_arith w _ _ _ _ _ _ h1
  have k1 : ∀ w : World, (binOp .sub 26 (.float .f64 b) (.float .f64 d)).run Try.prog w = .ok (.float .f64 d2) w := fun w => run_float_arith w _ _ _ _ _ _ h2
  have k2 : ∀ w : World, (binOp .mul 26 (.float .f64 d1) (.float .f64 d1)).run Try.prog w = .ok (.float .f64 u) w := fun w => run_float_arith w _ _ _ _ _ _ h3
  have k3 : ∀ w : World, (binOp .mul 26 (.float .f64 d2) (.float .f64 d2)).run Try.prog w = .ok (.float .f64 v) w := fun w => run_float_arith w _ _ _ _ _ _ h4
  have k4 : ∀ w : World, (binOp .add 26 (.float .f64 u) (.float .f64 v)).run Try.prog w = .ok (.float .f64 r) w := fun w => run_float_arith w _ _ _ _ _ _ h5
  have hst := st_float
  go_enter Try.func25, Try.ntmps25
  go_upto_region 1 with fail
  go_region
  all_goals go_wp2
  all_goals go_ret
  all_goals exact ⟨rfl, by (repeat (first | (with_reducible exact Below.refl _ _) | (with_reducible assumption) | (with_reducible apply bd) | (with_reducible apply ba) | (with_reducible refine bp ?_ (by first | omega | (simp [pad_size]; done) | (simp [pad_size]; omega)) _ _) | (with_reducible refine bs ?_ (by first | omega | (simp [pad_size]; done) | (simp [pad_size]; omega)) _) | (with_reducible refine bt ?_ (by assumption))))⟩
end Go.Proofs.Ytjildnmcjggfaaa
