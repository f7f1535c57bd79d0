
/- coins.Rest; the law's own example of it (little). -/
import Derived.Test.YtafcianpajheiaaL
import Derived.Test.YtafcianpajheiaaH
import Derived.Test.YtafcianpajheiaaR
set_option linter.unusedSimpArgs false
set_option linter.unusedVariables false
set_option maxRecDepth 20000
namespace Go.Proofs.Ytafcianpajheiaa
open Go.RowKit

theorem cellsL_at {l : List Cn} {i : Nat} {x : Cn} (hi : l[i]? = some x) : ∀ j, j < 5 → (cellsL l)[i * 5 + j]? = [Value.int .u8 x.d, .int .u64 x.a, .int .u64 x.b, .int .u64 x.c, .int .u64 x.e][j]? := by
  induction l generalizing i with
  | nil => simp at hi
  | cons y l ih =>
    intro j hj
    have e : cellsL (y :: l) = [Value.int .u8 y.d, .int .u64 y.a, .int .u64 y.b, .int .u64 y.c, .int .u64 y.e] ++ cellsL l := rfl
    rw [e]
    cases i with
    | zero => simp at hi; subst hi; rw [List.getElem?_append_left (by simp; omega)]; simp
    | succ i =>
      rw [List.getElem?_append_right (by simp; omega)]
      have := ih (by simpa using hi) j hj
      rw [← this]; congr 1; simp; omega

theorem own_coins {W : World} {base : Nat} {v : Value} {l : List Cn} (h : W.ownsRow base 103 5 v l.length (cellsL l)) (hl : l.length ≤ 1048576) : IsCoins W v l := by
  obtain ⟨h1, h2⟩ := h
  rcases h2 with ⟨rfl, h0⟩ | ⟨g, cap, cur, rfl, hg, hb, hn, hc, hsz, htk⟩
  · exact .inl ⟨List.eq_nil_of_length_eq_zero h0, none, 0, rfl⟩
  · by_cases e : l = []
    · subst e; exact .inl ⟨rfl, _, cap, rfl⟩
    · refine .inr ⟨g, 0, cap, rfl, e, hl, (Array.getElem?_eq_some_iff.1 hb).1, fun i x hi => ?_⟩
      obtain ⟨cc, _⟩ := cells_of_block hb
      have hil : i < l.length := (List.getElem?_eq_some_iff.1 hi).1
      have key : ∀ j, j < 5 → cur[0 + i * 5 + j]? = (cellsL l)[i * 5 + j]? := by
        intro j hj
        rw [← htk, List.getElem?_take_of_lt (by omega)]
        simp
      have hcl := cellsL_at hi
      refine ⟨?_, ?_, ?_, ?_, ?_⟩
      · have := key 0 (by omega); simp only [Nat.add_zero] at this; rw [cc, this]; simpa using hcl 0 (by omega)
      · rw [cc, key 1 (by omega)]; simpa using hcl 1 (by omega)
      · rw [cc, key 2 (by omega)]; simpa using hcl 2 (by omega)
      · rw [cc, key 3 (by omega)]; simpa using hcl 3 (by omega)
      · rw [cc, key 4 (by omega)]; simpa using hcl 4 (by omega)
end Go.Proofs.Ytafcianpajheiaa
