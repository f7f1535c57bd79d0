
/- Rows of words that are owned: read and written. -/
import Derived.Test.YtdnddkkpcbaepaaD1
set_option linter.unusedSimpArgs false
set_option linter.unusedVariables false
namespace Go.Proofs.Ytdnddkkpcbaepaa
open Go.RowKit

theorem row_words {W : World} {base n : Nat} {v : Value} {l : List Int} (h : W.ownsRow base 31 1 v (n + 1) (encU l)) (hl : l.length = n + 1) :
    ∃ g cap, v = .slice (some ⟨g, 0, none⟩) (n + 1) cap ∧ base ≤ g ∧ g < W.heap.size ∧ (∀ k (hk : k < n + 1), W.cell? ⟨g, k, none⟩ = some (.int .u64 (l[k]'(by omega)))) ∧ (∀ k, W.frozen? ⟨g, k, none⟩ = false) := by
  rcases h.2 with ⟨_, h0⟩ | ⟨g, cap, cur, rfl, hg, hgb, hcap, hcur⟩
  · omega
  · refine ⟨g, cap, rfl, hg, (Array.getElem?_eq_some_iff.1 hgb).1, fun k hk => ?_, (cells_blk hgb).2⟩
    have e : (List.take ((n + 1) * 1) cur.toList)[k]? = some (.int .u64 (l[k]'(by omega))) := by rw [hcur.2.2]; simp [encU, hl, hk]
    rw [List.getElem?_take_of_lt (by omega)] at e
    rw [(cells_blk hgb).1]
    simpa using e

theorem row_set {W : World} {base g n cap i : Nat} {e : TypeId} {xs : List Value} (u : Value) (h : W.ownsRow base e 1 (.slice (some ⟨g, 0, none⟩) n cap) n xs) (hi : i < n) :
    (W.setCell ⟨g, i, none⟩ u).ownsRow base e 1 (.slice (some ⟨g, 0, none⟩) n cap) n (xs.set i u) := by
  obtain ⟨h1, h2⟩ := h
  refine ⟨by simpa using h1, ?_⟩
  rcases h2 with ⟨h2, -⟩ | ⟨g', cap', cur, hv, hg, hgb, hcap, hm, hs, ht⟩
  · cases h2
  · cases hv
    refine .inr ⟨g, cap, cur.setIfInBounds i u, rfl, hg, ?_, hcap, hm, by simpa using hs, ?_⟩
    · obtain ⟨hlt, hk⟩ := Array.getElem?_eq_some_iff.1 hgb
      show (W.heap.modify g _)[g]? = _
      rw [Array.getElem?_eq_getElem (by rw [Array.size_modify]; exact hlt), Array.getElem_modify_self, hk]
      rfl
    · rw [← ht]
      simp [List.take_set]
end Go.Proofs.Ytdnddkkpcbaepaa
