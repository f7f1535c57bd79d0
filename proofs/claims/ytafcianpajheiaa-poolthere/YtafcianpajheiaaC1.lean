
/- Purses: the reference's List. -/
import Derived.Test.YtafcianpajheiaaU
import Derived.Test.YtafcianpajheiaaD1
set_option linter.unusedSimpArgs false
set_option linter.unusedVariables false
set_option maxRecDepth 20000
namespace Go.Proofs.Ytafcianpajheiaa
open Go.RowKit

theorem btc {n : Nat} {A B C : World} (h : Below n A B) (k : Below B.heap.size B C) (hn : n ≤ B.heap.size) : Below n A C := h.trans (k.mono hn)
/-- A purse: of each denomination a number. -/
def Purse (z : Nat → Cn) : Prop := ∀ d : Nat, d < 8 → LimC (z d) ∧ (z d).d = d
theorem new_cells0 (W : World) (c : Array Value) (t : TypeId) : ∀ j u, c.toList[j]? = some u → (W.alloc (.cells c t)).cell? (Addr.add ⟨W.heap.size, 0, none⟩ j) = some u := by
  intro j u h
  have e : Addr.add ⟨W.heap.size, 0, none⟩ j = ⟨W.heap.size, j, none⟩ := by
    unfold Addr.add; split
    · subst_vars; rfl
    · simp
  rw [e, World.cell?_alloc_at _ _ _ _ (by simp)]
  simpa using h

end Go.Proofs.Ytafcianpajheiaa
