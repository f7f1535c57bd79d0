
/- num.Bytes. -/
import Derived.Test.YtpdokkhpeoeebaaN2
import Derived.Test.YtpdokkhpeoeebaaX1
import Derived.RangeFuncBox
import Derived.Maps.AppendAt
set_option linter.unusedSimpArgs false
set_option linter.unusedVariables false
set_option maxRecDepth 20000
namespace Go.Proofs.Ytpdokkhpeoeebaa
open Go.RowKit Go.Shelf
attribute [local go_sem] Oper.semAt_some

/-- One byte more, none too many ahead. -/
def stepB (p : List Int) (b : Int) : List Int := if p = [] ∧ b = 0 then p else p ++ [b]
/-- The first j bytes of a part, the highest first. -/
def partB (p : List Int) (v : Int) : Nat → List Int
  | 0 => p
  | j + 1 => stepB (partB p v j) (v / 2 ^ (56 - 8 * j) % 256)
def bytesB (pre : List Limb) : List Int := pre.foldl (fun p x => partB p x.1.2 8) []
theorem bytesB_snoc (pre : List Limb) (x : Limb) : bytesB (pre ++ [x]) = partB (bytesB pre) x.1.2 8 := by simp [bytesB]
theorem stepB_len (p : List Int) (b : Int) : (stepB p b).length ≤ p.length + 1 := by unfold stepB; split <;> simp
theorem partB_len (p : List Int) (v : Int) (j : Nat) : (partB p v j).length ≤ p.length + j := by
  induction j with
  | zero => simp [partB]
  | succ j ih => have := stepB_len (partB p v j) (v / 2 ^ (56 - 8 * j) % 256); simp only [partB]; omega
theorem bytesB_len' (pre : List Limb) (p : List Int) : (pre.foldl (fun p x => partB p x.1.2 8) p).length ≤ p.length + 8 * pre.length := by
  induction pre generalizing p with
  | nil => simp
  | cons x pre ih => have := ih (partB p x.1.2 8); have := partB_len p x.1.2 8; simp only [List.foldl_cons, List.length_cons]; omega
theorem bytesB_len (pre : List Limb) : (bytesB pre).length ≤ 8 * pre.length := by have := bytesB_len' pre []; simpa [bytesB] using this
theorem block_row {W w1 : World} {B : Nat} {o tmp : Obj} {r : Option Nat} (h : W.heap[B]? = some o) (hr : some B ≠ r) (hg : (W.alloc tmp).grownBy w1 r) : w1.heap[B]? = some o := by
  have hl : B < W.heap.size := (Array.getElem?_eq_some_iff.1 h).1
  exact (hg.block B (by simp; omega) hr).trans ((World.grownBy_alloc W tmp none).block B hl (by simp) |>.trans h)
theorem step_hit {p : List Int} {b : Int} (h : ¬ (p = [] ∧ b = 0)) : stepB p b = p ++ [b] := if_neg h
theorem step_miss {p : List Int} {b : Int} (h : p = [] ∧ b = 0) : stepB p b = p := if_pos h
theorem encB_snoc (p : List Int) (b : Int) : encB (p ++ [b]) = encB p ++ [.int .u8 b] := by simp [encB]

end Go.Proofs.Ytpdokkhpeoeebaa
