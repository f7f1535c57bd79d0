
/- The reference's By: digits by a number, bit by bit. -/
import Derived.Test.YtpdokkhpeoeebaaE1
set_option linter.unusedSimpArgs false
set_option linter.unusedVariables false
set_option maxRecDepth 20000
namespace Go.Proofs.Ytpdokkhpeoeebaa
open Go.RowKit

def db17 (u0 u1 u2 u3 : Int) : Nat → Int := fun k => if k < 16 then dg u0 u1 u2 u3 k else 0
theorem db17_lim {u0 u1 u2 u3 : Int} (k : Nat) : 0 ≤ db17 u0 u1 u2 u3 k ∧ db17 u0 u1 u2 u3 k < 65536 := by
  unfold db17; split
  · exact dg_lim k
  · omega
theorem db17_sm {u0 u1 u2 u3 : Int} (hu : Lim u0 u1 u2 u3) : sm (db17 u0 u1 u2 u3) 17 = val u0 u1 u2 u3 := by
  rw [sm_succ, sm_congr (b := dg u0 u1 u2 u3) 16 (fun i hi => by unfold db17; rw [if_pos hi]), sm_dg hu]
  simp [db17]
/-- What the bits from a place on make: a quotient and what is left. -/
def ByS (P C qv R : Int) (k : Nat) : Prop := P / 2 ^ k = qv * C + R ∧ 0 ≤ R ∧ R < C
theorem byS_less {P C qv R : Int} {k : Nat} (h : ByS P C qv R (k + 1)) (hl : 2 * R + P / 2 ^ k % 2 < C) : ByS P C (2 * qv) (2 * R + P / 2 ^ k % 2) k := by
  obtain ⟨h1, h2, h3⟩ := h
  refine ⟨?_, by omega, hl⟩
  have e := ediv_half P k
  rw [h1] at e
  have e2 : 2 * qv * C = 2 * (qv * C) := Int.mul_assoc _ _ _
  rw [e2]
  generalize qv * C = t at *
  generalize P / 2 ^ k % 2 = b at *
  omega
theorem byS_more {P C qv R : Int} {k : Nat} (h : ByS P C qv R (k + 1)) (hl : ¬ 2 * R + P / 2 ^ k % 2 < C) : ByS P C (2 * qv + 1) (2 * R + P / 2 ^ k % 2 - C) k := by
  obtain ⟨h1, h2, h3⟩ := h
  refine ⟨?_, by omega, by omega⟩
  have e := ediv_half P k
  rw [h1] at e
  have e2 : (2 * qv + 1) * C = 2 * (qv * C) + C := by rw [Int.add_mul, Int.mul_assoc, Int.one_mul]
  rw [e2]
  generalize qv * C = t at *
  generalize P / 2 ^ k % 2 = b at *
  omega
theorem q_digit {dq : Nat → Int} {qv : Int} {j s : Nat} (hj : j < 32) (hl : ∀ i, i < 32 → 0 ≤ dq i ∧ dq i < 65536) (h : sm dq 32 = qv * 2 ^ (16 * j + s + 1)) : dq j = qv * 2 ^ (s + 1) % 65536 := by
  rw [← sm_dig hj hl, h, show 16 * j + s + 1 = 16 * j + (s + 1) by omega, pow_16]
  have hp : (0 : Int) < 65536 ^ j := Int.pow_pos (by decide)
  rw [show qv * (65536 ^ j * 2 ^ (s + 1)) = (qv * 2 ^ (s + 1)) * 65536 ^ j by grind, Int.mul_ediv_cancel _ (by omega)]
theorem sm_put {dq : Nat → Int} {j : Nat} (u : Int) : ∀ n, j < n → sm (upd dq j u) n = sm dq n + (u - dq j) * 65536 ^ j
  | 0, h => by omega
  | n + 1, h => by
    rw [sm_succ, sm_succ]
    by_cases e : j = n
    · subst e
      rw [sm_upd_above (Nat.le_refl _), upd_at, Int.sub_mul]; omega
    · rw [sm_put u n (by omega), upd_ne (by omega)]; omega

theorem row_other {W : World} {base b o g n cap : Nat} {e : TypeId} {u : Value} {xs : List Value} (h : W.ownsRow base e 1 (.slice (some ⟨g, 0, none⟩) n cap) n xs) (hne : g ≠ b) : (W.setCell ⟨b, o, none⟩ u).ownsRow base e 1 (.slice (some ⟨g, 0, none⟩) n cap) n xs := by
  obtain ⟨h1, h2⟩ := h
  refine ⟨h1, ?_⟩
  rcases h2 with h2 | ⟨g', cap', cur, hv, hg, hh, r⟩
  · exact .inl h2
  · cases hv
    exact .inr ⟨g, cap, cur, rfl, hg, (Below.heap_setCell W ⟨b, o, none⟩ u g hne).trans hh, r⟩
theorem row_drew {W : World} {base n : Nat} {e : TypeId} {size : Nat} {v : Value} {xs : List Value} (h : W.ownsRow base e size v n xs) : W.drew.ownsRow base e size v n xs := h
theorem tm2 {y : Int} (h : 0 ≤ y) : y.tmod 2 = y % 2 := Int.tmod_eq_emod_of_nonneg h
theorem tm2' {y : Int} (h : 0 ≤ y) {d : Int} (hd : 0 ≤ d := by decide) : (y / d).tmod 2 = y / d % 2 := Int.tmod_eq_emod_of_nonneg (Int.ediv_nonneg h hd)
theorem ret_tup {v : Value} {a b : Bool} (h : a = b) : Ending.returned (.tuple #[v, .bool a]) = .returned (.tuple #[v, .bool b]) := by rw [h]

end Go.Proofs.Ytpdokkhpeoeebaa
