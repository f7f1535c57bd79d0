
/- The coins' calls as they are used, by purses. -/
import Derived.Test.YtafcianpajheiaaC5
import Derived.Test.YtafcianpajheiaaV3
import Derived.Test.YtafcianpajheiaaV1
set_option linter.unusedSimpArgs false
set_option linter.unusedVariables false
set_option maxRecDepth 20000
namespace Go.Proofs.Ytafcianpajheiaa
open Go.RowKit

theorem eq4_self (a b c d : Int) : eq4 a b c d a b c d = true := eq4_true.2 ⟨rfl, rfl, rfl, rfl⟩
theorem lst8 (z : Nat → Cn) : (lst z 8).length ≤ 1048576 := by have := lst_len z 8; omega
/-- A coin alone, as a list. -/
def oneC (d x0 x1 x2 x3 : Int) : List Cn := if d < 8 then oneL ⟨d, x0, x1, x2, x3⟩ else []
theorem lst_zero : ∀ k, lst zeroP k = []
  | 0 => rfl
  | k + 1 => by simp [lst, lst_zero k, oneL, zeroP, eq4]
theorem lst_put (x : Cn) {k : Nat} : ∀ n, lst (putP zeroP k x) n = if k < n then oneL ⟨k, x.a, x.b, x.c, x.e⟩ else []
  | 0 => by simp [lst]
  | n + 1 => by
    simp only [lst]
    rw [lst_put x n]
    by_cases e : n = k
    · subst e
      rw [if_neg (by omega), if_pos (by omega)]
      simp [putP]
    · have h0 : oneL (putP zeroP k x n) = [] := by unfold putP; rw [if_neg e]; simp [oneL, zeroP, eq4]
      rw [h0, List.append_nil]
      by_cases h : k < n
      · rw [if_pos h, if_pos (by omega)]
      · rw [if_neg h, if_neg (by omega)]
theorem oneC_right (d x0 x1 x2 x3 : Int) (hd : 0 ≤ d) : rightFrom 0 (oneC d x0 x1 x2 x3) = true := by
  unfold oneC oneL
  split
  · split
    · rfl
    · rename_i h1 h2
      simp only [rightFrom]
      rw [if_neg (by omega), if_neg (by omega), if_neg h2]
  · rfl
theorem oneC_wf (d x0 x1 x2 x3 : Int) (hd : 0 ≤ d ∧ d ≤ 255) (hx : Lim x0 x1 x2 x3) : ∀ y ∈ oneC d x0 x1 x2 x3, CnWf y := by
  intro y hy
  unfold oneC oneL at hy
  split at hy
  · split at hy
    · simp at hy
    · rw [List.mem_singleton] at hy; rw [hy]; exact ⟨hd, hx⟩
  · simp at hy
theorem rightO_any {v : Value} {d x0 x1 x2 x3 : Int} (hd : 0 ≤ d ∧ d ≤ 255) (hx : Lim x0 x1 x2 x3) (w : World) (h : IsCoins w v (oneC d x0 x1 x2 x3)) :
    Calls Try.prog 33 #[v] w fun e w' => e = .returned (.bool true) ∧ Below w.heap.size w w' := by
  have := right_any w h (oneC_wf d x0 x1 x2 x3 hd hx)
  rwa [oneC_right d x0 x1 x2 x3 hd.1] at this
theorem IsCoins.dr {W : World} {v : Value} {l : List Cn} (h : IsCoins W v l) : IsCoins W.drew v l := h.below (bd (Below.refl _ _))
end Go.Proofs.Ytafcianpajheiaa
