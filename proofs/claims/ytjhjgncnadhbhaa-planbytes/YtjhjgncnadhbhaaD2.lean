
/- The reference's Cmp. -/
import Derived.Test.YtjhjgncnadhbhaaD1
import Derived.Test.YtjhjgncnadhbhaaG
import Derived.Deep.RegionWith
import Derived.Deep.RegionHeld2
import Derived.Deep.CutRange
set_option linter.unusedSimpArgs false
set_option linter.unusedVariables false
set_option maxRecDepth 20000
namespace Go.Proofs.Ytjhjgncnadhbhaa
open Go.RowKit

theorem digits_w (x0 x1 x2 x3 : Int) (hx : Lim x0 x1 x2 x3) (w : World) :
    Calls Try.prog 80 #[.agg #[.int .u64 x0, .int .u64 x1, .int .u64 x2, .int .u64 x3]] w fun e w' => ∃ g cap, e = .returned (.slice (some ⟨g, 0, none⟩) 16 cap) ∧ g < w'.heap.size ∧ (∀ k, k < 16 → w'.cell? ⟨g, k, none⟩ = some (.int .u64 (dg x0 x1 x2 x3 k))) ∧ Below w.heap.size w w' := by
  refine (digits_any x0 x1 x2 x3 hx w).mono ?_
  rintro e w' ⟨v, rfl, hrow, hb⟩
  rcases hrow.2 with ⟨_, h0⟩ | ⟨g, cap, cur, rfl, _, hgb, hcap, hcur⟩
  · omega
  · refine ⟨g, cap, rfl, (Array.getElem?_eq_some_iff.1 hgb).1, fun k hk => ?_, hb⟩
    have e : (List.take (16 * 1) cur.toList)[k]? = some (.int .u64 (dg x0 x1 x2 x3 k)) := by rw [hcur.2.2]; simp [encU, dgs, hk]
    rw [List.getElem?_take_of_lt (by omega)] at e
    rw [(cells_of_block hgb).1]
    simpa using e

theorem dg_val {x0 x1 x2 x3 : Int} (hx : Lim x0 x1 x2 x3) {k : Nat} (hk : k < 16) : dg x0 x1 x2 x3 k = val x0 x1 x2 x3 / 65536 ^ k % 65536 := by
  unfold Lim at hx
  rcases (show k = 0 ∨ k = 1 ∨ k = 2 ∨ k = 3 ∨ k = 4 ∨ k = 5 ∨ k = 6 ∨ k = 7 ∨ k = 8 ∨ k = 9 ∨ k = 10 ∨ k = 11 ∨ k = 12 ∨ k = 13 ∨ k = 14 ∨ k = 15 by omega) with rfl | rfl | rfl | rfl | rfl | rfl | rfl | rfl | rfl | rfl | rfl | rfl | rfl | rfl | rfl | rfl
  all_goals
    simp only [dg, lm, val, Nat.reduceLT, if_true, if_false, Nat.reduceMod, Nat.reduceMul, Int.reducePow]
    omega
theorem hi_step {x0 x1 x2 x3 : Int} (hx : Lim x0 x1 x2 x3) {k : Nat} (hk : k < 16) : val x0 x1 x2 x3 / 65536 ^ k = val x0 x1 x2 x3 / 65536 ^ (k + 1) * 65536 + dg x0 x1 x2 x3 k := by
  have e : val x0 x1 x2 x3 / 65536 ^ (k + 1) = val x0 x1 x2 x3 / 65536 ^ k / 65536 := by
    rw [Int.pow_succ]
    first
      | exact (Int.ediv_ediv_eq_ediv_mul _ (Int.pow_nonneg (by decide))).symm
      | exact (Int.ediv_ediv (Int.pow_nonneg (by decide))).symm
      | exact (Int.ediv_ediv_of_nonneg (Int.pow_nonneg (by decide))).symm
  rw [dg_val hx hk, e]
  generalize val x0 x1 x2 x3 / 65536 ^ k = q
  omega
theorem hi_top {x0 x1 x2 x3 : Int} (hx : Lim x0 x1 x2 x3) : val x0 x1 x2 x3 / 65536 ^ 16 = 0 := by
  have h0 := val_lo hx
  have h1 := val_hi hx
  exact Int.ediv_eq_zero_of_lt h0 h1
theorem lt_of_hi {a b : Int} {k : Nat} (h : a / 65536 ^ k < b / 65536 ^ k) : a < b := by
  apply Int.lt_of_not_ge
  intro hh
  have := Int.ediv_le_ediv (c := 65536 ^ k) (Int.pow_pos (by decide)) hh
  omega
theorem cmp_lt {x y : Int} (h : x < y) : cmpI x y = -1 := if_pos h
theorem cmp_gt {x y : Int} (h : y < x) : cmpI x y = 1 := by unfold cmpI; rw [if_neg (by omega), if_pos h]
theorem cmp_same (x : Int) : cmpI x x = 0 := by unfold cmpI; rw [if_neg (by omega), if_neg (by omega)]

end Go.Proofs.Ytjhjgncnadhbhaa
