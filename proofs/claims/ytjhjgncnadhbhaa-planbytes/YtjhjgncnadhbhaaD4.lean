
/- Rows of words that are owned: read and written. -/
import Derived.Test.YtjhjgncnadhbhaaD1
set_option linter.unusedSimpArgs false
set_option linter.unusedVariables false
set_option maxRecDepth 20000
namespace Go.Proofs.Ytjhjgncnadhbhaa
open Go.RowKit

theorem row_words {W : World} {base n : Nat} {v : Value} {l : List Int} (h : W.ownsRow base 28 1 v (n + 1) (encU l)) (hl : l.length = n + 1) :
    ∃ g cap, v = .slice (some ⟨g, 0, none⟩) (n + 1) cap ∧ base ≤ g ∧ g < W.heap.size ∧ (∀ k (hk : k < n + 1), W.cell? ⟨g, k, none⟩ = some (.int .u64 (l[k]'(by omega)))) ∧ (∀ k, W.frozen? ⟨g, k, none⟩ = false) := by
  rcases h.2 with ⟨_, h0⟩ | ⟨g, cap, cur, rfl, hg, hgb, hcap, hcur⟩
  · omega
  · refine ⟨g, cap, rfl, hg, (Array.getElem?_eq_some_iff.1 hgb).1, fun k hk => ?_, (cells_blk hgb).2⟩
    have e : (List.take ((n + 1) * 1) cur.toList)[k]? = some (.int .u64 (l[k]'(by omega))) := by rw [hcur.2.2]; simp [encU, hl, hk]
    rw [List.getElem?_take_of_lt (by omega)] at e
    rw [(cells_blk hgb).1]
    simpa using e

end Go.Proofs.Ytjhjgncnadhbhaa
