
/- Get of both stores. -/
import Derived.Test.YthajolagpnakkaaO24
set_option linter.unusedSimpArgs false
set_option linter.unusedVariables false
namespace Go.Proofs.Ythajolagpnakkaa
open Go.RowKit

section
variable {W : World} {s base : Nat} {A : Nat → Prop} {L : List (List Int × List Int)} {ds : List (List (List Int × List Int))} {n : Nat} {u : Value} {k : List Int}
theorem rdGet (h : RD W s base A L ds n) (hn : n ≤ 1000) (hu : IsBytes W u k) :
    Calls Try.prog 29 #[.pointer (some ⟨s, 0, none⟩), u] W fun e w' => Below W.heap.size W w' ∧ ((getS L k = none ∧ e = .returned (.tuple #[.slice none 0 0, .bool false])) ∨ ∃ v q, getS L k = some q ∧ e = .returned (.tuple #[v, .bool true]) ∧ IsBytes w' v q) := by
  obtain ⟨C, vl, vw, ws, l, was, h1, h2, h3, h4, h5, h6, h7⟩ := h
  subst h2
  have hcl := cont_len l
  refine (refGet_any h1 (by omega) hu).mono ?_
  rintro e w' ⟨hb, ⟨y, hy, e1, e2, rfl⟩ | ⟨e1, rfl⟩⟩
  · exact ⟨hb, .inr ⟨_, _, e2, rfl, (h1.cur.all y hy).1.v.below hb⟩⟩
  · exact ⟨hb, .inl ⟨e1, rfl⟩⟩
theorem stdGet (h : StD W s base A L ds n) (hn : n ≤ 1000) (hu : Src W u k) (hk : Byte k) :
    Calls Try.prog 28 #[.pointer (some ⟨s, 0, none⟩), u] W fun e w' => Below W.heap.size W w' ∧ ((getS L k = none ∧ e = .returned (.tuple #[.slice none 0 0, .bool false])) ∨ ∃ v q, getS L k = some q ∧ e = .returned (.tuple #[v, .bool true]) ∧ IsBytes w' v q) := by
  obtain ⟨vp, vj, vb, r, j, b, h1, h2, h3, h4, h5, h6, h7, h8⟩ := h
  subst h3
  have hcl := cont_len r
  refine (get_any h1 h2 (by omega) hu hk).mono ?_
  rintro e w' ⟨hb, ⟨e1, rfl⟩ | ⟨v, g, q, e1, rfl, ho, -, -, hql⟩⟩
  · exact ⟨hb, .inl ⟨e1, rfl⟩⟩
  · exact ⟨hb, .inr ⟨_, _, e1, rfl, ho.isB hql⟩⟩
end
end Go.Proofs.Ythajolagpnakkaa
