
/- The reference's Of, Amount, One, Same. -/
import Derived.Test.YtafcianpajheiaaC2
import Derived.Laws.Tables
set_option linter.unusedSimpArgs false
set_option linter.unusedVariables false
set_option maxRecDepth 20000
namespace Go.Proofs.Ytafcianpajheiaa
open Go.RowKit

theorem brow {a w : World} (h : Below a.heap.size a w) {g : Nat} (hg : a.heap.size ≤ g) (cs : Array Value) : Below a.heap.size a (w.setRow g cs) :=
  h.trans ⟨setRow_os _ _ _, setRow_tape _ _ _, setRow_output _ _ _, Nat.le_of_eq (setRow_size _ _ _).symm, fun k hk => setRow_other _ _ _ _ (by omega)⟩

theorem ofP_lst {z : Nat → Cn} (hz : Purse z) : ∀ k, k ≤ 8 → ∀ d, ofP (lst z k) d = if d < k then z d else ⟨d, 0, 0, 0, 0⟩
  | 0, _, d => by simp [lst, ofP, zeroP]
  | k + 1, hk, d => by
    have ih := ofP_lst hz k (by omega) d
    have hzk := hz k (by omega)
    simp only [lst]
    rcases Bool.eq_false_or_eq_true (eq4 (z k).a (z k).b (z k).c (z k).e 0 0 0 0) with hq | hq
    · rw [oneL, if_pos hq, List.append_nil, ih]
      by_cases e : d = k
      · subst e
        rw [if_neg (by omega), if_pos (by omega)]
        obtain ⟨h0, h1, h2, h3⟩ := eq4_true.1 hq
        have := hzk.2
        cases hc : z d with | mk d' a b c e' => rw [hc] at h0 h1 h2 h3 this; simp at h0 h1 h2 h3 this; simp [h0, h1, h2, h3, this]
      · by_cases h : d < k
        · rw [if_pos h, if_pos (by omega)]
        · rw [if_neg h, if_neg (by omega)]
    · rw [oneL, if_neg (by simp [hq]), ofP_snoc]
      have e8 : ((z k).d % 8).toNat = k := by rw [hzk.2]; omega
      rw [e8]
      unfold putP
      by_cases e : d = k
      · subst e
        rw [if_pos rfl, if_pos (by omega)]
        have := hzk.2
        cases hc : z d with | mk d' a b c e' => rw [hc] at this; simp at this; simp [this]
      · rw [if_neg e, ih]
        by_cases h : d < k
        · rw [if_pos h, if_pos (by omega)]
        · rw [if_neg h, if_neg (by omega)]
theorem ofP_full {z : Nat → Cn} (hz : Purse z) {d : Nat} (hd : d < 8) : ofP (lst z 8) d = z d := by
  rw [ofP_lst hz 8 (Nat.le_refl _), if_pos hd]
theorem lst_mem {z : Nat → Cn} : ∀ k, ∀ x ∈ lst z k, ∃ d, d < k ∧ x = z d ∧ eq4 x.a x.b x.c x.e 0 0 0 0 = false
  | 0, x, h => by simp [lst] at h
  | k + 1, x, h => by
    simp only [lst] at h
    rcases List.mem_append.1 h with h | h
    · obtain ⟨d, h1, h2, h3⟩ := lst_mem k x h
      exact ⟨d, by omega, h2, h3⟩
    · unfold oneL at h
      split at h
      · simp at h
      · rename_i hq
        rw [List.mem_singleton] at h
        exact ⟨k, by omega, h, by rw [h]; simpa using hq⟩
theorem lst_wf {z : Nat → Cn} (hz : Purse z) : ∀ x ∈ lst z 8, CnWf x := by
  intro x hx
  obtain ⟨d, hd, rfl, -⟩ := lst_mem 8 x hx
  have := hz d hd
  refine ⟨?_, this.1⟩
  rw [this.2]; omega
theorem lst_below {z : Nat → Cn} (hz : Purse z) : ∀ x ∈ lst z 8, 0 ≤ x.d ∧ x.d < 8 := by
  intro x hx
  obtain ⟨d, hd, rfl, -⟩ := lst_mem 8 x hx
  rw [(hz d hd).2]; omega

end Go.Proofs.Ytafcianpajheiaa
