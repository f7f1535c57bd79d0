
/- gauge.highest, math.Ldexp, gauge.Float. -/
import Derived.Test.YtpdokkhpeoeebaaGE
import Derived.Deep.CutRange
set_option linter.unusedSimpArgs false
set_option linter.unusedVariables false
set_option maxRecDepth 20000
namespace Go.Proofs.Ytpdokkhpeoeebaa
open Go.RowKit

/-- The float of a number, by its value. -/
def fI (v : Int) : Nat := fN v.toNat
theorem bitLen_pos {X : Nat} (h : X ≠ 0) : bitLen X = X.log2 + 1 := by unfold bitLen; rw [if_neg h]

set_option maxRecDepth 100000 in
set_option maxHeartbeats 4000000 in
theorem highest_0 (x0 : Int) (hx : 0 ≤ x0 ∧ x0 < 18446744073709551616) (w : World) :
    Calls Try.prog 28 #[.agg #[.int .u64 x0, .int .u64 0, .int .u64 0, .int .u64 0]] w fun e w' => e = .returned (.tuple #[.int .u64 x0, .int .i64 0]) ∧ Below w.heap.size w w' := by
  have hpad := pads
  go_enter Try.func28, Try.ntmps28
  go_wp2
  apply wp_loop_rounds 4
  simp only [Code.rounds]
  go_wp2
  all_goals refine bodyPost_ret (v := .tuple #[.int .u64 x0, .int .i64 0]) (by simp only [results, Try.results28]; go_simp) rfl ⟨rfl, by (repeat (first | (with_reducible exact Below.refl _ _) | (with_reducible assumption) | (with_reducible apply bd) | (with_reducible apply ba) | (with_reducible refine bp ?_ (by first | omega | (simp [pad_size]; done) | (simp [pad_size]; omega)) _ _) | (with_reducible refine bs ?_ (by first | omega | (simp [pad_size]; done) | (simp [pad_size]; omega)) _) | (with_reducible refine bt ?_ (by assumption))))⟩

set_option maxRecDepth 100000 in
set_option maxHeartbeats 4000000 in
theorem highest_1 {x0 x1 r lx hy ly  u : Int} (hX0 : (x1 == 0) = false) (hX : 0 ≤ x1 ∧ x1 < 18446744073709551616) (hr : (0 ≤ r ∧ r < 64)) (hn : (64 : Int) - (bitLen x1.toNat : Int) = r) (h1 : IntKind.u64.wrap (x1 * 2 ^ r.toNat) = lx) (h2 : x0 / 2 ^ (64 - r).toNat = hy) (h3 : IntKind.u64.wrap (x0 * 2 ^ r.toNat) = ly) (h4 : bits .or .u64 lx hy = u) {b : Bool} {q : Int} (hb : (ly != 0) = b) (h8 : bits .or .u64 u 1 = q) (w : World) :
    Calls Try.prog 28 #[.agg #[.int .u64 x0, .int .u64 x1, .int .u64 0, .int .u64 0]] w fun e w' => e = .returned (.tuple #[.int .u64 (if b then q else u), .int .i64 (64 - r)]) ∧ Below w.heap.size w w' := by
  have hpad := pads
  have hs1 : (0 : Int) ≤ r := hr.1
  have hs2 : (0 : Int) ≤ 64 - r := by omega
  have hw1 : IntKind.i64.wrap (64 - r) = 64 - r := by rw [IntKind.wrap_i64]; omega
  have hw2 : IntKind.i64.wrap (64 - r) = 64 - r := by rw [IntKind.wrap_i64]; omega
  cases b <;> go_enter Try.func28, Try.ntmps28
  all_goals go_wp2
  all_goals apply wp_loop_rounds 4
  all_goals simp only [Code.rounds]
  all_goals go_wp2_with (go_at_call 33; refine (lead64_any _ hX.1 hX.2 _).mono ?_; rintro e w' ⟨rfl, rfl⟩; rw [hn])
  all_goals go_region
  all_goals go_wp2
  all_goals apply wp_loop_rounds 1
  all_goals simp only [Code.rounds]
  all_goals go_wp2
  · refine bodyPost_ret (v := .tuple #[.int .u64 u, .int .i64 (64 - r)]) (by simp only [results, Try.results28]; go_simp) rfl ⟨rfl, by (repeat (first | (with_reducible exact Below.refl _ _) | (with_reducible assumption) | (with_reducible apply bd) | (with_reducible apply ba) | (with_reducible refine bp ?_ (by first | omega | (simp [pad_size]; done) | (simp [pad_size]; omega)) _ _) | (with_reducible refine bs ?_ (by first | omega | (simp [pad_size]; done) | (simp [pad_size]; omega)) _) | (with_reducible refine bt ?_ (by assumption))))⟩
  · refine bodyPost_ret (v := .tuple #[.int .u64 q, .int .i64 (64 - r)]) (by simp only [results, Try.results28]; go_simp) rfl ⟨rfl, by (repeat (first | (with_reducible exact Below.refl _ _) | (with_reducible assumption) | (with_reducible apply bd) | (with_reducible apply ba) | (with_reducible refine bp ?_ (by first | omega | (simp [pad_size]; done) | (simp [pad_size]; omega)) _ _) | (with_reducible refine bs ?_ (by first | omega | (simp [pad_size]; done) | (simp [pad_size]; omega)) _) | (with_reducible refine bt ?_ (by assumption))))⟩

set_option maxRecDepth 100000 in
set_option maxHeartbeats 4000000 in
theorem highest_2 {x0 x1 x2 r lx hy ly o1 u : Int} (hX0 : (x2 == 0) = false) (hX : 0 ≤ x2 ∧ x2 < 18446744073709551616) (hr : (0 ≤ r ∧ r < 64)) (hn : (64 : Int) - (bitLen x2.toNat : Int) = r) (h1 : IntKind.u64.wrap (x2 * 2 ^ r.toNat) = lx) (h2 : x1 / 2 ^ (64 - r).toNat = hy) (h3 : IntKind.u64.wrap (x1 * 2 ^ r.toNat) = ly) (h4 : bits .or .u64 lx hy = u) (h5 : bits .or .u64 ly x0 = o1) {b : Bool} {q : Int} (hb : (o1 != 0) = b) (h8 : bits .or .u64 u 1 = q) (w : World) :
    Calls Try.prog 28 #[.agg #[.int .u64 x0, .int .u64 x1, .int .u64 x2, .int .u64 0]] w fun e w' => e = .returned (.tuple #[.int .u64 (if b then q else u), .int .i64 (128 - r)]) ∧ Below w.heap.size w w' := by
  have hpad := pads
  have hs1 : (0 : Int) ≤ r := hr.1
  have hs2 : (0 : Int) ≤ 64 - r := by omega
  have hw1 : IntKind.i64.wrap (64 - r) = 64 - r := by rw [IntKind.wrap_i64]; omega
  have hw2 : IntKind.i64.wrap (128 - r) = 128 - r := by rw [IntKind.wrap_i64]; omega
  cases b <;> go_enter Try.func28, Try.ntmps28
  all_goals go_wp2
  all_goals apply wp_loop_rounds 4
  all_goals simp only [Code.rounds]
  all_goals go_wp2_with (go_at_call 33; refine (lead64_any _ hX.1 hX.2 _).mono ?_; rintro e w' ⟨rfl, rfl⟩; rw [hn])
  all_goals go_region
  all_goals go_wp2
  all_goals apply wp_loop_rounds 2
  all_goals simp only [Code.rounds]
  all_goals go_wp2
  · refine bodyPost_ret (v := .tuple #[.int .u64 u, .int .i64 (128 - r)]) (by simp only [results, Try.results28]; go_simp) rfl ⟨rfl, by (repeat (first | (with_reducible exact Below.refl _ _) | (with_reducible assumption) | (with_reducible apply bd) | (with_reducible apply ba) | (with_reducible refine bp ?_ (by first | omega | (simp [pad_size]; done) | (simp [pad_size]; omega)) _ _) | (with_reducible refine bs ?_ (by first | omega | (simp [pad_size]; done) | (simp [pad_size]; omega)) _) | (with_reducible refine bt ?_ (by assumption))))⟩
  · refine bodyPost_ret (v := .tuple #[.int .u64 q, .int .i64 (128 - r)]) (by simp only [results, Try.results28]; go_simp) rfl ⟨rfl, by (repeat (first | (with_reducible exact Below.refl _ _) | (with_reducible assumption) | (with_reducible apply bd) | (with_reducible apply ba) | (with_reducible refine bp ?_ (by first | omega | (simp [pad_size]; done) | (simp [pad_size]; omega)) _ _) | (with_reducible refine bs ?_ (by first | omega | (simp [pad_size]; done) | (simp [pad_size]; omega)) _) | (with_reducible refine bt ?_ (by assumption))))⟩

set_option maxRecDepth 100000 in
set_option maxHeartbeats 4000000 in
theorem highest_3 {x0 x1 x2 x3 r lx hy ly o1 o2 u : Int} (hX0 : (x3 == 0) = false) (hX : 0 ≤ x3 ∧ x3 < 18446744073709551616) (hr : (0 ≤ r ∧ r < 64)) (hn : (64 : Int) - (bitLen x3.toNat : Int) = r) (h1 : IntKind.u64.wrap (x3 * 2 ^ r.toNat) = lx) (h2 : x2 / 2 ^ (64 - r).toNat = hy) (h3 : IntKind.u64.wrap (x2 * 2 ^ r.toNat) = ly) (h4 : bits .or .u64 lx hy = u) (h5 : bits .or .u64 ly x0 = o1) (h6 : bits .or .u64 o1 x1 = o2) {b : Bool} {q : Int} (hb : (o2 != 0) = b) (h8 : bits .or .u64 u 1 = q) (w : World) :
    Calls Try.prog 28 #[.agg #[.int .u64 x0, .int .u64 x1, .int .u64 x2, .int .u64 x3]] w fun e w' => e = .returned (.tuple #[.int .u64 (if b then q else u), .int .i64 (192 - r)]) ∧ Below w.heap.size w w' := by
  have hpad := pads
  have hs1 : (0 : Int) ≤ r := hr.1
  have hs2 : (0 : Int) ≤ 64 - r := by omega
  have hw1 : IntKind.i64.wrap (64 - r) = 64 - r := by rw [IntKind.wrap_i64]; omega
  have hw2 : IntKind.i64.wrap (192 - r) = 192 - r := by rw [IntKind.wrap_i64]; omega
  cases b <;> go_enter Try.func28, Try.ntmps28
  all_goals go_wp2
  all_goals apply wp_loop_rounds 4
  all_goals simp only [Code.rounds]
  all_goals go_wp2_with (go_at_call 33; refine (lead64_any _ hX.1 hX.2 _).mono ?_; rintro e w' ⟨rfl, rfl⟩; rw [hn])
  all_goals go_region
  all_goals go_wp2
  all_goals apply wp_loop_rounds 3
  all_goals simp only [Code.rounds]
  all_goals go_wp2
  · refine bodyPost_ret (v := .tuple #[.int .u64 u, .int .i64 (192 - r)]) (by simp only [results, Try.results28]; go_simp) rfl ⟨rfl, by (repeat (first | (with_reducible exact Below.refl _ _) | (with_reducible assumption) | (with_reducible apply bd) | (with_reducible apply ba) | (with_reducible refine bp ?_ (by first | omega | (simp [pad_size]; done) | (simp [pad_size]; omega)) _ _) | (with_reducible refine bs ?_ (by first | omega | (simp [pad_size]; done) | (simp [pad_size]; omega)) _) | (with_reducible refine bt ?_ (by assumption))))⟩
  · refine bodyPost_ret (v := .tuple #[.int .u64 q, .int .i64 (192 - r)]) (by simp only [results, Try.results28]; go_simp) rfl ⟨rfl, by (repeat (first | (with_reducible exact Below.refl _ _) | (with_reducible assumption) | (with_reducible apply bd) | (with_reducible apply ba) | (with_reducible refine bp ?_ (by first | omega | (simp [pad_size]; done) | (simp [pad_size]; omega)) _ _) | (with_reducible refine bs ?_ (by first | omega | (simp [pad_size]; done) | (simp [pad_size]; omega)) _) | (with_reducible refine bt ?_ (by assumption))))⟩
end Go.Proofs.Ytpdokkhpeoeebaa
