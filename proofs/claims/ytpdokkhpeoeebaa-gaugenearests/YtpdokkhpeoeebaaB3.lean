
/- The law's own examples (halves). -/
import Derived.Test.YtpdokkhpeoeebaaB2
import Derived.Test.YtpdokkhpeoeebaaZ1
set_option linter.unusedSimpArgs false
set_option linter.unusedVariables false
set_option maxRecDepth 20000
namespace Go.Proofs.Ytpdokkhpeoeebaa
open Go.RowKit

theorem lim_of {n : Int} (h : 0 ≤ n ∧ n < 18446744073709551616) : Lim n 0 0 0 := by unfold Lim; omega

theorem md_ex {up : Bool} {n z0 z1 z2 z3 c : Int} (hz : Lim z0 z1 z2 z3) (h : MdS (val 7 0 0 0) (val 3 0 0 0) (val 2 0 0 0) up (val z0 z1 z2 z3) c) (hn : 0 ≤ n ∧ n < 18446744073709551616)
    (hu : ∀ q r : Int, 21 = q * 2 + r → 0 ≤ r → r < 2 → upI up q r = n) : z0 = n ∧ z1 = 0 ∧ z2 = 0 ∧ z3 = 0 ∧ c = 0 := by
  rw [val_of, val_of, val_of] at h
  rcases h with ⟨h, -⟩ | ⟨-, q, r, h1, h2, h3, h4, h5⟩
  · omega
  · rw [hu q r (by omega) h2 h3] at h5
    rcases h5 with ⟨-, rfl, h6⟩ | ⟨h6, -⟩
    · obtain ⟨a, b, c, d⟩ := val_inj hz (lim_of hn) (by rw [val_of]; exact h6)
      exact ⟨a, b, c, d, rfl⟩
    · omega
theorem lit2 (W : World) : IsBytes (W.alloc (.cells #[.int .u8 1, .int .u8 0] 5)) (.slice (some ⟨W.heap.size, 0, none⟩) 2 2) [1, 0] := by
  refine .inr ⟨W.heap.size, 0, 2, rfl, by simp, by simp, fun i x h => ?_⟩
  rw [(cells_of_block (World.alloc_heap_new W _)).1]
  match i, h with
  | 0, h => simp at h; subst h; rfl
  | 1, h => simp at h; subst h; rfl
  | i + 2, h => simp at h

end Go.Proofs.Ytpdokkhpeoeebaa
