
/- num.Rest, Least, Mul. -/
import Derived.Test.YtligkenemocdbaaD
import Derived.Test.YtligkenemocdbaaG
set_option linter.unusedSimpArgs false
set_option linter.unusedVariables false
namespace Go.Proofs.Ytligkenemocdbaa
open Go.RowKit

set_option maxHeartbeats 1000000 in
theorem least_any (x0 x1 x2 x3 y0 y1 y2 y3 : Int) (hx : Lim x0 x1 x2 x3) (hy : Lim y0 y1 y2 y3) (w : World) :
    Calls Try.prog 23 #[.agg #[.int .u64 x0, .int .u64 x1, .int .u64 x2, .int .u64 x3], .agg #[.int .u64 y0, .int .u64 y1, .int .u64 y2, .int .u64 y3]] w fun e w' =>
      ∃ z0 z1 z2 z3 : Int, e = .returned (.agg #[.int .u64 z0, .int .u64 z1, .int .u64 z2, .int .u64 z3]) ∧ Lim z0 z1 z2 z3 ∧ Hid (val z0 z1 z2 z3 = leastI (val x0 x1 x2 x3) (val y0 y1 y2 y3)) ∧ Below w.heap.size w w' := by
  have hpad := pads
  by_cases hlt : val x0 x1 x2 x3 < val y0 y1 y2 y3
  · have hc : cmpI (val x0 x1 x2 x3) (val y0 y1 y2 y3) = -1 := by simp [cmpI, hlt]
    go_enter Try.func23, Try.ntmps23
    go_wp2_with (go_at_call 26; refine (cmp_any _ _ _ _ _ _ _ _ hx hy _).mono ?_; rintro e w1 ⟨rfl, hb⟩; rw [hc]; obtain ⟨m1, g1, d1, hm1, rfl⟩ := pad_of hb; clear hb; (try simp [pad_size] at hm1); have st1_w := sz3 (n := w.heap.size) (m := m1) (by omega))
    refine bodyPost_ret (v := .agg #[.int .u64 x0, .int .u64 x1, .int .u64 x2, .int .u64 x3]) (by simp only [results, Try.results23]; go_simp) rfl ⟨x0, x1, x2, x3, rfl, hx, ?_, ?_⟩
    · unfold Hid leastI; rw [if_pos hlt]
    · (repeat (first | (with_reducible exact Below.refl _ _) | (with_reducible assumption) | (with_reducible apply bd) | (with_reducible apply ba) | (with_reducible refine bp ?_ (by first | omega | (simp [pad_size]; done) | (simp [pad_size]; omega)) _ _) | (with_reducible refine bs ?_ (by first | omega | (simp [pad_size]; done) | (simp [pad_size]; omega)) _) | (with_reducible refine bt ?_ (by assumption))))
  · have hc : 0 ≤ cmpI (val x0 x1 x2 x3) (val y0 y1 y2 y3) := by simp only [cmpI, if_neg hlt]; split <;> omega
    have hc' : ¬ cmpI (val x0 x1 x2 x3) (val y0 y1 y2 y3) < 0 := by omega
    go_enter Try.func23, Try.ntmps23
    go_wp2_with (go_at_call 26; refine (cmp_any _ _ _ _ _ _ _ _ hx hy _).mono ?_; rintro e w1 ⟨rfl, hb⟩; obtain ⟨m1, g1, d1, hm1, rfl⟩ := pad_of hb; clear hb; (try simp [pad_size] at hm1); have st1_w := sz3 (n := w.heap.size) (m := m1) (by omega))
    refine bodyPost_ret (v := .agg #[.int .u64 y0, .int .u64 y1, .int .u64 y2, .int .u64 y3]) (by simp only [results, Try.results23]; go_simp) rfl ⟨y0, y1, y2, y3, rfl, hy, ?_, ?_⟩
    · unfold Hid leastI; rw [if_neg (by omega)]
    · (repeat (first | (with_reducible exact Below.refl _ _) | (with_reducible assumption) | (with_reducible apply bd) | (with_reducible apply ba) | (with_reducible refine bp ?_ (by first | omega | (simp [pad_size]; done) | (simp [pad_size]; omega)) _ _) | (with_reducible refine bs ?_ (by first | omega | (simp [pad_size]; done) | (simp [pad_size]; omega)) _) | (with_reducible refine bt ?_ (by assumption))))

end Go.Proofs.Ytligkenemocdbaa
