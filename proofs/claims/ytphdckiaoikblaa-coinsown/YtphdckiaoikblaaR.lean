
/- The document's Right of a list of coins; it is the program's. -/
import Derived.Test.YtphdckiaoikblaaM
set_option linter.unusedSimpArgs false
set_option linter.unusedVariables false
namespace Go.Proofs.Ytphdckiaoikblaa
open Go.RowKit

def OkAt (l : List Cn) (i : Nat) (x : Cn) : Prop := x.d ≤ 7 ∧ eq4 x.a x.b x.c x.e 0 0 0 0 = false ∧ ∀ k y, k < i → l[k]? = some y → y.d < x.d
def RightP (l : List Cn) : Prop := ∀ i x, l[i]? = some x → OkAt l i x

theorem rightFrom_iff (l : List Cn) (m : Int) : rightFrom m l = true ↔ (∀ i x, l[i]? = some x → OkAt l i x ∧ m ≤ x.d) := by
  induction l generalizing m with
  | nil => simp [rightFrom]
  | cons y l ih =>
    unfold rightFrom
    by_cases h1 : y.d < m
    · rw [if_pos h1]
      simp only [Bool.false_eq_true, false_iff]
      intro h; have := (h 0 y rfl).2; omega
    · rw [if_neg h1]
      by_cases h2 : 8 ≤ y.d
      · rw [if_pos h2]
        simp only [Bool.false_eq_true, false_iff]
        intro h; have := (h 0 y rfl).1.1; omega
      · rw [if_neg h2]
        rcases Bool.eq_false_or_eq_true (eq4 y.a y.b y.c y.e 0 0 0 0) with h3 | h3
        · rw [if_pos h3]
          simp only [Bool.false_eq_true, false_iff]
          intro h; have := (h 0 y rfl).1.2.1; rw [h3] at this; cases this
        · rw [if_neg (by simp [h3]), ih]
          constructor
          · intro h i x hi
            cases i with
            | zero => simp at hi; subst hi; exact ⟨⟨by omega, h3, fun k _ hk => by omega⟩, by omega⟩
            | succ i =>
              obtain ⟨⟨a, b, c⟩, d⟩ := h i x (by simpa using hi)
              refine ⟨⟨a, b, fun k z hk hz => ?_⟩, by omega⟩
              cases k with
              | zero => simp at hz; subst hz; omega
              | succ k => exact c k z (by omega) (by simpa using hz)
          · intro h i x hi
            obtain ⟨⟨a, b, c⟩, d⟩ := h (i + 1) x (by simpa using hi)
            refine ⟨⟨a, b, fun k z hk hz => c (k + 1) z (by omega) (by simpa using hz)⟩, ?_⟩
            have := c 0 y (by omega) rfl; omega

theorem right_eq {l : List Cn} (h : RightP l) (hwf : ∀ x ∈ l, CnWf x) : rightFrom 0 l = true :=
  (rightFrom_iff l 0).2 fun i x hi => ⟨h i x hi, (hwf x (List.mem_of_getElem? hi)).1.1⟩
theorem right_ne {l : List Cn} {i : Nat} {x : Cn} (hi : l[i]? = some x) (h : ¬ OkAt l i x) : rightFrom 0 l = false := by
  rcases Bool.eq_false_or_eq_true (rightFrom 0 l) with e | e
  · exact absurd ((rightFrom_iff l 0).1 e i x hi).1 h
  · exact e

end Go.Proofs.Ytphdckiaoikblaa
