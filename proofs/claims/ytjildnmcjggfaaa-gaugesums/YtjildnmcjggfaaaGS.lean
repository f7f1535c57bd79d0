
/- Where lists of points lie. -/
import Derived.Test.YtjildnmcjggfaaaGR
set_option linter.unusedSimpArgs false
set_option linter.unusedVariables false
namespace Go.Proofs.Ytjildnmcjggfaaa
open Go.RowKit

theorem cxV_at {l : List (Nat × Nat)} {i : Nat} {y : Nat × Nat} (h : l[i]? = some y) : (cxV l)[i]? = some (.complex .f64 y.1 y.2) := by
  unfold cxV; rw [List.getElem?_map, h]; rfl
theorem ptV_at : ∀ (l : List (Nat × Nat)) (i : Nat) (y : Nat × Nat), l[i]? = some y → (ptV l)[i * 2]? = some (.float .f64 y.1) ∧ (ptV l)[i * 2 + 1]? = some (.float .f64 y.2)
  | [], i, y, h => by simp at h
  | x :: l, 0, y, h => by simp at h; subst h; exact ⟨rfl, rfl⟩
  | x :: l, i + 1, y, h => by
    have h' : l[i]? = some y := by simpa using h
    obtain ⟨h1, h2⟩ := ptV_at l i y h'
    have e : ptV (x :: l) = [.float .f64 x.1, .float .f64 x.2] ++ ptV l := rfl
    rw [e, show (i + 1) * 2 = i * 2 + 2 by omega]
    exact ⟨by simpa using h1, by simpa using h2⟩
/-- Where the lists of points lie. -/
theorem pj_rows {w0 W : World} {p q : Value} {x : Nat × Nat} {l : List (Nat × Nat)} (h : PJ w0 W p q (x :: l) (x :: l)) : ∃ g c g2 c2, p = .slice (some ⟨g, 0, none⟩) (l.length + 1) c ∧ q = .slice (some ⟨g2, 0, none⟩) (l.length + 1) c2 ∧ (l.length + 1 ≤ c ∧ c ≤ 9223372036854775807) ∧ g < W.heap.size ∧ g2 < W.heap.size ∧ (∀ i y, (x :: l)[i]? = some y → W.cell? ⟨g, i, none⟩ = some (.complex .f64 y.1 y.2)) ∧ (∀ i y, (x :: l)[i]? = some y → W.cell? ⟨g2, i * 2, none⟩ = some (.float .f64 y.1) ∧ W.cell? ⟨g2, i * 2 + 1, none⟩ = some (.float .f64 y.2)) := by
  rcases h.rp.2 with ⟨-, h0⟩ | ⟨g, cap, cur, e1, h1, h2, h3, h3', -⟩
  · simp at h0
  · rcases h.rq.2 with ⟨-, h0⟩ | ⟨g2, cap2, cur2, e2, k1, k2, k3, -⟩
    · simp at h0
    · refine ⟨g, cap, g2, cap2, e1, e2, ?_, (Array.getElem?_eq_some_iff.1 h2).1, (Array.getElem?_eq_some_iff.1 k2).1, fun i y hy => ?_, fun i y hy => ?_⟩
      · exact ⟨by simpa using h3, by unfold maxLen at h3'; exact h3'⟩
      · have := h.rp.cells (g := g) (by rw [e1]; rfl) _ _ (cxV_at hy)
        rwa [add_cell, Nat.zero_add] at this
      · obtain ⟨a1, a2⟩ := ptV_at _ i y hy
        have b1 := h.rq.cells (g := g2) (by rw [e2]; rfl) _ _ a1
        have b2 := h.rq.cells (g := g2) (by rw [e2]; rfl) _ _ a2
        rw [add_cell, Nat.zero_add] at b1 b2
        exact ⟨b1, b2⟩
end Go.Proofs.Ytjildnmcjggfaaa
