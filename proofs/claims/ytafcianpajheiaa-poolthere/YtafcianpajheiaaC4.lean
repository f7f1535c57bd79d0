
/- The reference's Of, whole; Amount, One, Same. -/
import Derived.Test.YtafcianpajheiaaC3
set_option linter.unusedSimpArgs false
set_option linter.unusedVariables false
set_option maxRecDepth 20000
namespace Go.Proofs.Ytafcianpajheiaa
open Go.RowKit

theorem amt_lst {z : Nat → Cn} (hz : Purse z) : ∀ k, k ≤ 8 → ∀ d : Nat, amt (lst z k) d = if d < k then z d else ⟨d, 0, 0, 0, 0⟩
  | 0, _, d => by simp [lst, amt]
  | k + 1, hk, d => by
    have ih := amt_lst hz k (by omega) d
    have hzk := hz k (by omega)
    simp only [lst]
    have hfind : ∀ d : Nat, d ≥ k → (lst z k).find? (fun x => x.d == (d : Int)) = none := by
      intro d hd
      rw [List.find?_eq_none]
      intro x hx
      obtain ⟨j, hj, rfl, -⟩ := lst_mem k x hx
      rw [(hz j (by omega)).2]
      simp; omega
    unfold amt at ih ⊢
    rw [List.find?_append]
    rcases Bool.eq_false_or_eq_true (eq4 (z k).a (z k).b (z k).c (z k).e 0 0 0 0) with hq | hq
    · rw [oneL, if_pos hq]
      simp only [List.find?_nil, Option.or_none]
      rw [ih]
      by_cases e : d = k
      · subst e
        rw [if_neg (by omega), if_pos (by omega)]
        obtain ⟨h0, h1, h2, h3⟩ := eq4_true.1 hq
        have := hzk.2
        cases hc : z d with | mk d' a b c e' => rw [hc] at h0 h1 h2 h3 this; simp at h0 h1 h2 h3 this; simp [h0, h1, h2, h3, this]
      · by_cases h : d < k
        · rw [if_pos h, if_pos (by omega)]
        · rw [if_neg h, if_neg (by omega)]
    · rw [oneL, if_neg (by simp [hq])]
      by_cases e : d < k
      · rw [if_pos e] at ih
        rw [if_pos (by omega)]
        cases hf : (lst z k).find? (fun x => x.d == (d : Int)) with
        | some y => rw [hf] at ih; simpa using ih
        | none =>
          rw [hf] at ih
          have hne : ((z k).d == (d : Int)) = false := by rw [hzk.2]; simp; omega
          simp [List.find?_cons, hne]
          simpa using ih
      · rw [hfind d (by omega)]
        by_cases e2 : d = k
        · subst e2
          rw [if_pos (by omega)]
          simp [List.find?_cons, hzk.2]
        · rw [if_neg (by omega)]
          have hne : ((z k).d == (d : Int)) = false := by rw [hzk.2]; simp; omega
          simp [List.find?_cons, hne]
theorem amt_full {z : Nat → Cn} (hz : Purse z) {d : Nat} (hd : d < 8) : amt (lst z 8) d = z d := by rw [amt_lst hz 8 (Nat.le_refl _), if_pos hd]
theorem amt_beyond {z : Nat → Cn} (hz : Purse z) {d : Nat} (hd : ¬ d < 8) : amt (lst z 8) d = ⟨d, 0, 0, 0, 0⟩ := by rw [amt_lst hz 8 (Nat.le_refl _), if_neg hd]
theorem amt_lim {z : Nat → Cn} (hz : Purse z) (d : Int) : LimC (amt (lst z 8) d) := lim_amt (fun x hx => (lst_wf hz x hx).2) d

end Go.Proofs.Ytafcianpajheiaa
