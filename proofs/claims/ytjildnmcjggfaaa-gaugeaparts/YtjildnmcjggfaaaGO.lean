
/- How far apart: as far back; from itself not at all; turned both the same: plain. -/
import Derived.Test.YtjildnmcjggfaaaGM
import Derived.Test.YtjildnmcjggfaaaGN
set_option linter.unusedSimpArgs false
set_option linter.unusedVariables false
namespace Go.Proofs.Ytjildnmcjggfaaa
open Go.RowKit

theorem word_one {s t : Bool} {r q : Nat} (hr : r ≤ 2047 * 4503599627370496) (hq : q ≤ 2047 * 4503599627370496) (h : Ieee.double.word s r = Ieee.double.word t q) : r = q := by
  have h1 := (word_fin s hr).2.1
  have h2 := (word_fin t hq).2.1
  rw [h] at h1
  exact h1.symm.trans h2
/-- Two differences, as great as these, in either order. -/
def Df (p q : Nat × Nat) (r1 r2 : Nat) : Prop := (∃ s t, Ieee.double.sub p.1 q.1 = some (Ieee.double.word s r1) ∧ Ieee.double.sub p.2 q.2 = some (Ieee.double.word t r2)) ∨ (∃ s t, Ieee.double.sub p.1 q.1 = some (Ieee.double.word s r2) ∧ Ieee.double.sub p.2 q.2 = some (Ieee.double.word t r1))
theorem neg_word' {x y r : Nat} {t : Bool} (hx : FinX x) (hy : FinX y) (hr : r ≤ 2047 * 4503599627370496) (h : Ieee.double.sub x y = some (Ieee.double.word t r)) : ∃ s, Ieee.double.sub (neg x) (neg y) = some (Ieee.double.word s r) := by
  obtain ⟨q, hq, ⟨s1, e1⟩, -, ⟨s3, e3⟩⟩ := sub_fin hx hy
  rw [e1] at h
  have := word_one hq hr (Option.some.inj h)
  subst this
  exact ⟨s3, e3⟩
theorem df_tw {a b c d r1 r2 : Nat} (ha : FinX a) (hb : FinX b) (hc : FinX c) (hd : FinX d) (h1 : r1 ≤ 2047 * 4503599627370496) (h2 : r2 ≤ 2047 * 4503599627370496) (h : Df (a, b) (c, d) r1 r2) : ∀ q, Df (tw q (a, b)) (tw q (c, d)) r1 r2
  | 0 => h
  | q + 1 => by
    have f := tw_fin ha hb q
    have g := tw_fin hc hd q
    rcases df_tw ha hb hc hd h1 h2 h q with ⟨s, t, e1, e2⟩ | ⟨s, t, e1, e2⟩
    · obtain ⟨s', e⟩ := neg_word' f.2 g.2 h2 e2
      exact .inr ⟨s', s, e, e1⟩
    · obtain ⟨s', e⟩ := neg_word' f.2 g.2 h1 e2
      exact .inl ⟨s', s, e, e1⟩
theorem ap_all {a b c d : Nat} (ha : FinX a) (hb : FinX b) (hc : FinX c) (hd : FinX d) : ∃ r, Ps r ∧ Ap a b c d r ∧ Ap c d a b r ∧ ∀ q, Ap (tw q (a, b)).1 (tw q (a, b)).2 (tw q (c, d)).1 (tw q (c, d)).2 r := by
  obtain ⟨r1, h1, ⟨s1, e1⟩, ⟨s2, e2⟩, -⟩ := sub_fin ha hc
  obtain ⟨r2, h2, ⟨t1, g1⟩, ⟨t2, g2⟩, -⟩ := sub_fin hb hd
  obtain ⟨u, hu, su, mu⟩ := sq_word h1
  obtain ⟨v, hv, sv, mv⟩ := sq_word h2
  obtain ⟨r, er, fr, sr⟩ := add_pos hu hv su sv
  refine ⟨r, ⟨fr, sr⟩, ⟨_, _, u, v, e1, g1, mu _, mv _, er⟩, ⟨_, _, u, v, e2, g2, mu _, mv _, er⟩, fun q => ?_⟩
  rcases df_tw ha hb hc hd h1 h2 (.inl ⟨s1, t1, e1, g1⟩) q with ⟨s, t, k1, k2⟩ | ⟨s, t, k1, k2⟩
  · exact ⟨_, _, u, v, k1, k2, mu _, mv _, er⟩
  · exact ⟨_, _, v, u, k1, k2, mv _, mu _, by rw [add_swap]; exact er⟩
theorem ap_self {a b : Nat} (ha : FinX a) (hb : FinX b) : Ap a b a b 0 := ⟨0, 0, 0, 0, sub_self ha, sub_self hb, by decide +kernel, by decide +kernel, by decide +kernel⟩
end Go.Proofs.Ytjildnmcjggfaaa
