
/- The reference's Add. -/
import Derived.Test.YtdnddkkpcbaepaaD2
import Derived.Test.YtdnddkkpcbaepaaD3
import Derived.Test.YtdnddkkpcbaepaaD5
set_option linter.unusedSimpArgs false
set_option linter.unusedVariables false
namespace Go.Proofs.Ytdnddkkpcbaepaa
open Go.RowKit

set_option maxRecDepth 100000 in
theorem sm_dg {x0 x1 x2 x3 : Int} (hx : Lim x0 x1 x2 x3) : sm (dg x0 x1 x2 x3) 16 = val x0 x1 x2 x3 := by
  unfold Lim at hx
  simp only [sm, dg, lm, val, Nat.reduceLT, if_true, if_false, Nat.reduceMod, Nat.reduceMul, Int.reducePow]
  omega
theorem val_Lp (dl : Nat → Int) : val (Lp dl 16 0) (Lp dl 16 1) (Lp dl 16 2) (Lp dl 16 3) = sm dl 16 := by
  simp only [sm, Lp, val, Nat.reduceLT, Nat.reduceAdd, Nat.reduceMul, if_true, Int.reducePow]
  omega
theorem lim_Lp {dl : Nat → Int} (h : ∀ i, i < 16 → 0 ≤ dl i ∧ dl i < 65536) : Lim (Lp dl 16 0) (Lp dl 16 1) (Lp dl 16 2) (Lp dl 16 3) := by
  have b0 := h 0 (by omega); have b1 := h 1 (by omega); have b2 := h 2 (by omega); have b3 := h 3 (by omega); have b4 := h 4 (by omega); have b5 := h 5 (by omega); have b6 := h 6 (by omega); have b7 := h 7 (by omega); have b8 := h 8 (by omega); have b9 := h 9 (by omega); have b10 := h 10 (by omega); have b11 := h 11 (by omega); have b12 := h 12 (by omega); have b13 := h 13 (by omega); have b14 := h 14 (by omega); have b15 := h 15 (by omega)
  unfold Lim
  simp only [Lp, Nat.reduceLT, Nat.reduceAdd, Nat.reduceMul, if_true]
  omega

theorem row_below {W W' : World} {base : Nat} {e : TypeId} {size : Nat} {v : Value} {n : Nat} {xs : List Value} (h : W.ownsRow base e size v n xs) (hb : Below W.heap.size W W') : W'.ownsRow base e size v n xs := by
  obtain ⟨h1, h2⟩ := h
  refine ⟨h1, ?_⟩
  rcases h2 with h2 | ⟨g, cap, cur, hv, hg, hh, r⟩
  · exact .inl h2
  · exact .inr ⟨g, cap, cur, hv, hg, (hb.block g (Array.getElem?_eq_some_iff.1 hh).1).trans hh, r⟩
theorem bt' {n : Nat} {A B C : World} (h : Below n A B) (k : Below B.heap.size B C) (hn : n ≤ B.heap.size) : Below n A C := h.trans (k.mono hn)
theorem cell_other {W : World} {b o g k : Nat} {u : Value} (h : g ≠ b) : (W.setCell ⟨b, o, none⟩ u).cell? ⟨g, k, none⟩ = W.cell? ⟨g, k, none⟩ := by
  unfold World.cell?
  rw [show (W.setCell ⟨b, o, none⟩ u).heap[(⟨g, k, none⟩ : Addr).block]? = W.heap[(⟨g, k, none⟩ : Addr).block]? from Below.heap_setCell W ⟨b, o, none⟩ u g h]
theorem add_chain {A B C D : World} (h : Below A.heap.size A B) (h5 : Below A.heap.size B C) (h6 : Below C.heap.size C D) : Below A.heap.size A D := bt (h.trans h5) h6
theorem tail16 {dq : Nat → Int} (h : dq 16 = 0) : ∀ k, 16 ≤ k → k < 17 → dq k = 0 := by
  intro k h1 h2
  obtain rfl : k = 16 := by omega
  exact h
theorem dg_lim {x0 x1 x2 x3 : Int} (k : Nat) : 0 ≤ dg x0 x1 x2 x3 k ∧ dg x0 x1 x2 x3 k < 65536 := by unfold dg; omega
theorem sm_add {a b c : Nat → Int} (n : Nat) (h : ∀ i, i < n → c i = a i + b i) : sm c n = sm a n + sm b n := by
  induction n with
  | zero => rfl
  | succ n ih => simp only [sm]; rw [ih (fun i hi => h i (by omega)), h n (by omega), Int.add_mul]; omega

theorem digits_o (x0 x1 x2 x3 : Int) (hx : Lim x0 x1 x2 x3) (w : World) :
    Calls Try.prog 59 #[.agg #[.int .u64 x0, .int .u64 x1, .int .u64 x2, .int .u64 x3]] w fun e w' => ∃ g cap, e = .returned (.slice (some ⟨g, 0, none⟩) 16 cap) ∧ w'.ownsRow w.heap.size 31 1 (.slice (some ⟨g, 0, none⟩) 16 cap) 16 (encU (fl (dg x0 x1 x2 x3) 16)) ∧ w.heap.size ≤ g ∧ g < w'.heap.size ∧ Below w.heap.size w w' := by
  refine (digits_any x0 x1 x2 x3 hx w).mono ?_
  rintro e w' ⟨v, rfl, hrow, hb⟩
  obtain ⟨g, cap, rfl, h1, h2, -, -⟩ := row_words (n := 15) hrow (dgs_len _ _ _ _ _)
  exact ⟨g, cap, rfl, hrow, h1, h2, hb⟩

end Go.Proofs.Ytdnddkkpcbaepaa
