
/- The coins' calls as they are used, by purses. -/
import Derived.Test.YtjhjgncnadhbhaaC5
import Derived.Test.YtjhjgncnadhbhaaV3
import Derived.Test.YtjhjgncnadhbhaaV1
set_option linter.unusedSimpArgs false
set_option linter.unusedVariables false
set_option maxRecDepth 20000
namespace Go.Proofs.Ytjhjgncnadhbhaa
open Go.RowKit

theorem eq4_self (a b c d : Int) : eq4 a b c d a b c d = true := eq4_true.2 ⟨rfl, rfl, rfl, rfl⟩
theorem lst8 (z : Nat → Cn) : (lst z 8).length ≤ 1048576 := by have := lst_len z 8; omega
/-- A coin alone, as a list. -/
def oneC (d x0 x1 x2 x3 : Int) : List Cn := if d < 8 then oneL ⟨d, x0, x1, x2, x3⟩ else []
theorem oneC_any (d x0 x1 x2 x3 : Int) (w : World) :
    Calls Try.prog 66 #[.int .u8 d, .agg #[.int .u64 x0, .int .u64 x1, .int .u64 x2, .int .u64 x3]] w fun e w' => ∃ u, e = .returned u ∧ IsCoins w' u (oneC d x0 x1 x2 x3) ∧ Below w.heap.size w w' := by
  by_cases h : 8 ≤ d ∨ eq4 x0 x1 x2 x3 0 0 0 0 = true
  · refine (one_none d x0 x1 x2 x3 h w).mono ?_
    rintro e w' ⟨rfl, hb⟩
    refine ⟨_, rfl, .inl ⟨?_, _, _, rfl⟩, hb⟩
    unfold oneC oneL
    rcases h with h | h
    · rw [if_neg (by omega)]
    · simp [h]
  · have h1 : ¬ 8 ≤ d := fun e => h (.inl e)
    have h2 : eq4 x0 x1 x2 x3 0 0 0 0 = false := by simpa using fun e => h (.inr e)
    refine (one_some d x0 x1 x2 x3 h1 h2 w).mono ?_
    rintro e w' ⟨rfl, rfl⟩
    refine ⟨_, rfl, ?_, ba (ba (Below.refl _ _) _) _⟩
    unfold oneC oneL
    rw [if_pos (by omega), if_neg (by simp [h2])]
    refine block_coins (c := #[.int .u8 d, .int .u64 x0, .int .u64 x1, .int .u64 x2, .int .u64 x3]) (heap_alloc2_new w _ _) rfl (by simp) (by simp)
theorem lst_zero : ∀ k, lst zeroP k = []
  | 0 => rfl
  | k + 1 => by simp [lst, lst_zero k, oneL, zeroP, eq4]
theorem lst_put (x : Cn) {k : Nat} : ∀ n, lst (putP zeroP k x) n = if k < n then oneL ⟨k, x.a, x.b, x.c, x.e⟩ else []
  | 0 => by simp [lst]
  | n + 1 => by
    simp only [lst]
    rw [lst_put x n]
    by_cases e : n = k
    · subst e
      rw [if_neg (by omega), if_pos (by omega)]
      simp [putP]
    · have h0 : oneL (putP zeroP k x n) = [] := by unfold putP; rw [if_neg e]; simp [oneL, zeroP, eq4]
      rw [h0, List.append_nil]
      by_cases h : k < n
      · rw [if_pos h, if_pos (by omega)]
      · rw [if_neg h, if_neg (by omega)]
theorem oneC_right (d x0 x1 x2 x3 : Int) (hd : 0 ≤ d) : rightFrom 0 (oneC d x0 x1 x2 x3) = true := by
  unfold oneC oneL
  split
  · split
    · rfl
    · rename_i h1 h2
      simp only [rightFrom]
      rw [if_neg (by omega), if_neg (by omega), if_neg h2]
  · rfl
theorem oneC_wf (d x0 x1 x2 x3 : Int) (hd : 0 ≤ d ∧ d ≤ 255) (hx : Lim x0 x1 x2 x3) : ∀ y ∈ oneC d x0 x1 x2 x3, CnWf y := by
  intro y hy
  unfold oneC oneL at hy
  split at hy
  · split at hy
    · simp at hy
    · rw [List.mem_singleton] at hy; rw [hy]; exact ⟨hd, hx⟩
  · simp at hy
theorem rightO_any {v : Value} {d x0 x1 x2 x3 : Int} (hd : 0 ≤ d ∧ d ≤ 255) (hx : Lim x0 x1 x2 x3) (w : World) (h : IsCoins w v (oneC d x0 x1 x2 x3)) :
    Calls Try.prog 76 #[v] w fun e w' => e = .returned (.bool true) ∧ Below w.heap.size w w' := by
  have := right_any w h (oneC_wf d x0 x1 x2 x3 hd hx)
  rwa [oneC_right d x0 x1 x2 x3 hd.1] at this
theorem IsCoins.dr {W : World} {v : Value} {l : List Cn} (h : IsCoins W v l) : IsCoins W.drew v l := h.below (bd (Below.refl _ _))
end Go.Proofs.Ytjhjgncnadhbhaa
