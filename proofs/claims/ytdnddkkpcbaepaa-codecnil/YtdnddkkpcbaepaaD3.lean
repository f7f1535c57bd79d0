
/- The reference's Of: the number that digits are. -/
import Derived.Test.YtdnddkkpcbaepaaB
set_option linter.unusedSimpArgs false
set_option linter.unusedVariables false
namespace Go.Proofs.Ytdnddkkpcbaepaa
open Go.RowKit

/-- The part j of the first k digits. -/
def Lp (dl : Nat → Int) (k j : Nat) : Int := (if 4 * j < k then dl (4 * j) else 0) + (if 4 * j + 1 < k then dl (4 * j + 1) * 65536 else 0) + (if 4 * j + 2 < k then dl (4 * j + 2) * 4294967296 else 0) + (if 4 * j + 3 < k then dl (4 * j + 3) * 281474976710656 else 0)

theorem Lp_stop (dl : Nat → Int) {k : Nat} (h : 16 ≤ k) : Lp dl k 0 = Lp dl 16 0 ∧ Lp dl k 1 = Lp dl 16 1 ∧ Lp dl k 2 = Lp dl 16 2 ∧ Lp dl k 3 = Lp dl 16 3 := by
  unfold Lp
  refine ⟨?_, ?_, ?_, ?_⟩ <;> (rw [if_pos (by omega), if_pos (by omega), if_pos (by omega), if_pos (by omega)]; rfl)

end Go.Proofs.Ytdnddkkpcbaepaa
