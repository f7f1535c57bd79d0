
/- Lists that are purses' may be. -/
import Derived.Test.YtjhjgncnadhbhaaC8
set_option linter.unusedSimpArgs false
set_option linter.unusedVariables false
set_option maxRecDepth 20000
namespace Go.Proofs.Ytjhjgncnadhbhaa
open Go.RowKit

theorem lst_right {z : Nat → Cn} (hz : Purse z) : ∀ k, k ≤ 8 → RightP (lst z k)
  | 0, _ => by intro i x hi; simp [lst] at hi
  | k + 1, hk => by
    have ih := lst_right hz k (by omega)
    intro i x hi
    simp only [lst] at hi ⊢
    by_cases hlt : i < (lst z k).length
    · rw [List.getElem?_append_left hlt] at hi
      obtain ⟨h1, h2, h3⟩ := ih i x hi
      refine ⟨h1, h2, fun j y hj hy => h3 j y hj ?_⟩
      rw [List.getElem?_append_left (by omega)] at hy
      exact hy
    · rw [List.getElem?_append_right (by omega)] at hi
      have hm : x ∈ oneL (z k) := List.mem_of_getElem? hi
      have hi0 : i - (lst z k).length = 0 := by
        have h1 : (oneL (z k)).length ≤ 1 := by unfold oneL; split <;> simp
        have h2 := (List.getElem?_eq_some_iff.1 hi).1
        omega
      unfold oneL at hm
      split at hm
      · simp at hm
      · rename_i hq
        rw [List.mem_singleton] at hm
        subst hm
        refine ⟨?_, by simpa using hq, fun j y hj hy => ?_⟩
        · rw [(hz k (by omega)).2]; omega
        · rw [List.getElem?_append_left (by omega)] at hy
          obtain ⟨e, he, rfl, -⟩ := lst_mem k y (List.mem_of_getElem? hy)
          rw [(hz e (by omega)).2, (hz k (by omega)).2]; omega
theorem rightL_any {v : Value} {z : Nat → Cn} (hz : Purse z) (w : World) (h : IsCoins w v (lst z 8)) :
    Calls Try.prog 76 #[v] w fun e w' => e = .returned (.bool true) ∧ Below w.heap.size w w' := by
  have := right_any w h (lst_wf hz)
  rwa [right_eq (lst_right hz 8 (Nat.le_refl _)) (lst_wf hz)] at this
end Go.Proofs.Ytjhjgncnadhbhaa
