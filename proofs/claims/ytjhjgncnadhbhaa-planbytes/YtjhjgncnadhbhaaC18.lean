
/- Right coins as a purse: plain facts. -/
import Derived.Test.YtjhjgncnadhbhaaC8
import Derived.Test.YtjhjgncnadhbhaaU
set_option linter.unusedSimpArgs false
set_option linter.unusedVariables false
set_option maxRecDepth 20000
namespace Go.Proofs.Ytjhjgncnadhbhaa
open Go.RowKit

/-- The list of a purse from one place on. -/
def lf (z : Nat → Cn) : Nat → Nat → List Cn
  | 0, _ => []
  | k + 1, m => oneL (z m) ++ lf z k (m + 1)
theorem lf_lst (z : Nat → Cn) : ∀ k m, lst z (m + k) = lst z m ++ lf z k m
  | 0, m => by simp [lf]
  | k + 1, m => by
    have e : m + (k + 1) = (m + 1) + k := by omega
    rw [e, lf_lst z k (m + 1)]
    simp [lst, lf]
theorem lf_congr {z y : Nat → Cn} : ∀ k m, (∀ d, m ≤ d → z d = y d) → lf z k m = lf y k m
  | 0, _, _ => rfl
  | k + 1, m, h => by
    simp only [lf]
    rw [h m (Nat.le_refl _), lf_congr k (m + 1) (fun d hd => h d (by omega))]
theorem amt_cons_ne {x : Cn} {l : List Cn} {d : Int} (h : x.d ≠ d) : amt (x :: l) d = amt l d := by
  unfold amt
  rw [List.find?_cons_of_neg (by simpa using h)]
theorem amt_cons_eq {x : Cn} {l : List Cn} : amt (x :: l) x.d = x := by
  unfold amt
  rw [List.find?_cons_of_pos (by simp)]
  rfl
theorem right_cons {m : Int} {x : Cn} {l : List Cn} (h : rightFrom m (x :: l) = true) : m ≤ x.d ∧ x.d < 8 ∧ eq4 x.a x.b x.c x.e 0 0 0 0 = false ∧ rightFrom (x.d + 1) l = true := by
  unfold rightFrom at h
  split at h
  · cases h
  · split at h
    · cases h
    · split at h
      · cases h
      · rename_i h1 h2 h3
        exact ⟨by omega, by omega, by simpa using h3, h⟩
theorem right_up : ∀ {m k : Int} {l : List Cn}, rightFrom m l = true → (∀ x, l.head? = some x → k ≤ x.d) → rightFrom k l = true
  | _, _, [], _, _ => rfl
  | m, k, x :: l, h, hk => by
    obtain ⟨h1, h2, h3, h4⟩ := right_cons h
    have := hk x rfl
    unfold rightFrom
    rw [if_neg (by omega), if_neg (by omega), h3]
    simpa using h4
theorem amt_low : ∀ {m : Int} {l : List Cn} {d : Int}, rightFrom m l = true → d < m → amt l d = ⟨d, 0, 0, 0, 0⟩
  | _, [], _, _, _ => rfl
  | m, x :: l, d, h, hd => by
    obtain ⟨h1, h2, h3, h4⟩ := right_cons h
    rw [amt_cons_ne (by omega)]
    exact amt_low h4 (by omega)
theorem lf_amt : ∀ (k m : Nat) (l : List Cn), rightFrom (m : Int) l = true → m + k = 8 → lf (fun d => amt l d) k m = l
  | 0, m, [], _, _ => rfl
  | 0, m, x :: l, h, hm => by
    obtain ⟨h1, h2, -, -⟩ := right_cons h
    omega
  | k + 1, m, [], _, hm => by
    simp only [lf]
    have ih := lf_amt k (m + 1) [] rfl (by omega)
    rw [ih]
    simp [amt, oneL, eq4]
  | k + 1, m, x :: l, h, hm => by
    obtain ⟨h1, h2, h3, h4⟩ := right_cons h
    simp only [lf]
    by_cases e : x.d = (m : Int)
    · have e2 : amt (x :: l) (m : Int) = x := by rw [← e]; exact amt_cons_eq
      rw [e2, lf_congr (y := fun d => amt l d) k (m + 1) (fun d hd => amt_cons_ne (by omega))]
      have h4' : rightFrom ((m + 1 : Nat) : Int) l = true := by
        have e3 : ((m + 1 : Nat) : Int) = x.d + 1 := by omega
        rw [e3]; exact h4
      rw [lf_amt k (m + 1) l h4' (by omega)]
      unfold oneL
      rw [h3]
      rfl
    · have e2 : amt (x :: l) (m : Int) = ⟨(m : Int), 0, 0, 0, 0⟩ := by
        rw [amt_cons_ne e]
        exact amt_low h4 (by omega)
      have h5 : rightFrom ((m + 1 : Nat) : Int) (x :: l) = true := right_up h (fun y hy => by injection hy with hy; subst hy; omega)
      rw [e2, lf_amt k (m + 1) (x :: l) h5 (by omega)]
      simp [oneL, eq4]
/-- Coins that may be are the list of a purse. -/
theorem right_lst {l : List Cn} (h : rightFrom 0 l = true) : lst (fun d => amt l d) 8 = l := by
  have := lf_lst (fun d => amt l d) 8 0
  rw [Nat.zero_add] at this
  rw [this, lf_amt 8 0 l h rfl]
  rfl
theorem amt_d (l : List Cn) (d : Int) : (amt l d).d = d := by
  unfold amt
  cases hf : l.find? (fun x => x.d == d) with
  | none => rfl
  | some x => simpa using List.find?_some hf
theorem purse_amt {l : List Cn} (hwf : ∀ x ∈ l, CnWf x) : Purse (fun d => amt l d) := fun d _ => ⟨lim_amt (fun x hx => (hwf x hx).2) d, amt_d l d⟩

end Go.Proofs.Ytjhjgncnadhbhaa
