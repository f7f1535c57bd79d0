
/- The reference's carry. -/
import Derived.Test.YtdnddkkpcbaepaaD4
set_option linter.unusedSimpArgs false
set_option linter.unusedVariables false
namespace Go.Proofs.Ytdnddkkpcbaepaa
open Go.RowKit

def fl (dl : Nat → Int) (n : Nat) : List Int := (List.range n).map dl
def sm (dl : Nat → Int) : Nat → Int
  | 0 => 0
  | k + 1 => sm dl k + dl k * 65536 ^ k
def upd (dl : Nat → Int) (k : Nat) (u : Int) : Nat → Int := fun i => if i = k then u else dl i
theorem fl_len (dl : Nat → Int) (n : Nat) : (fl dl n).length = n := by simp [fl]
theorem fl_set (dl : Nat → Int) (n k : Nat) (u : Int) : (encU (fl dl n)).set k (.int .u64 u) = encU (fl (upd dl k u) n) := by
  apply List.ext_getElem?
  intro i
  simp only [encU, fl, upd, List.getElem?_set, List.getElem?_map, List.getElem?_range, List.length_map, List.length_range]
  by_cases hi : i < n
  · by_cases h : k = i
    · subst h; simp [hi, upd]
    · simp [h, hi, upd, show ¬ i = k from fun e => h e.symm]
  · by_cases h : k = i
    · subst h; simp [hi]
    · simp [h, hi]
theorem fl_snoc (dl : Nat → Int) (n : Nat) : fl dl (n + 1) = fl dl n ++ [dl n] := by simp [fl, List.range_succ]
theorem fl_congr {a b : Nat → Int} (n : Nat) (h : ∀ i, i < n → a i = b i) : fl a n = fl b n := by
  unfold fl; apply List.map_congr_left; intro i hi; exact h i (by simpa using hi)
theorem sm_congr {a b : Nat → Int} (n : Nat) (h : ∀ i, i < n → a i = b i) : sm a n = sm b n := by
  induction n with
  | zero => rfl
  | succ n ih => simp only [sm]; rw [ih (fun i hi => h i (by omega)), h n (by omega)]

end Go.Proofs.Ytdnddkkpcbaepaa
