
/- num.Rest, Least, Mul. -/
import Derived.Test.YtjhjgncnadhbhaaD
import Derived.Test.YtjhjgncnadhbhaaG
set_option linter.unusedSimpArgs false
set_option linter.unusedVariables false
set_option maxRecDepth 20000
namespace Go.Proofs.Ytjhjgncnadhbhaa
open Go.RowKit

set_option maxHeartbeats 1000000 in
theorem rest_any (x0 x1 x2 x3 y0 y1 y2 y3 : Int) (hx : Lim x0 x1 x2 x3) (hy : Lim y0 y1 y2 y3) (w : World) :
    Calls Try.prog 70 #[.agg #[.int .u64 x0, .int .u64 x1, .int .u64 x2, .int .u64 x3], .agg #[.int .u64 y0, .int .u64 y1, .int .u64 y2, .int .u64 y3]] w fun e w' =>
      ∃ z0 z1 z2 z3 : Int, e = .returned (.agg #[.int .u64 z0, .int .u64 z1, .int .u64 z2, .int .u64 z3]) ∧ Lim z0 z1 z2 z3 ∧ Hid (val z0 z1 z2 z3 = restI (val x0 x1 x2 x3) (val y0 y1 y2 y3)) ∧ Below w.heap.size w w' := by
  have hpad := pads
  go_enter Try.func70, Try.ntmps70
  go_wp2_with (go_at_call 92; refine (sub_any _ _ _ _ _ _ _ _ hx hy _).mono ?_; rintro e w1 ⟨z0, z1, z2, z3, c, rfl, hz, he, hb⟩; obtain ⟨m1, g1, d1, hm1, rfl⟩ := pad_of hb; clear hb; (try simp [pad_size] at hm1); have st1_w := sz3 (n := w.heap.size) (m := m1) (by omega))
  refine bodyPost_ret (v := .agg #[.int .u64 z0, .int .u64 z1, .int .u64 z2, .int .u64 z3]) (by simp only [results, Try.results70]; go_simp) rfl ⟨z0, z1, z2, z3, rfl, hz, ?_, ?_⟩
  · rcases he with ⟨h1, rfl, h2⟩ | ⟨h1, rfl, h2⟩
    · unfold Hid restI; rw [if_pos h1]; exact h2
    · unfold Hid restI; rw [if_neg (by omega)]; exact h2
  · (repeat (first | (with_reducible exact Below.refl _ _) | (with_reducible assumption) | (with_reducible apply bd) | (with_reducible apply ba) | (with_reducible refine bp ?_ (by first | omega | (simp [pad_size]; done) | (simp [pad_size]; omega)) _ _) | (with_reducible refine bs ?_ (by first | omega | (simp [pad_size]; done) | (simp [pad_size]; omega)) _) | (with_reducible refine bt ?_ (by assumption))))

end Go.Proofs.Ytjhjgncnadhbhaa
