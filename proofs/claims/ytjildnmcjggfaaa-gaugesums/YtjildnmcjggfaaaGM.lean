
/- Floats of numbers: finite, none below nothing. -/
import Derived.Test.YtjildnmcjggfaaaGL
set_option linter.unusedSimpArgs false
set_option linter.unusedVariables false
namespace Go.Proofs.Ytjildnmcjggfaaa
open Go.RowKit

theorem fI_fin {x0 x1 x2 x3 : Int} (hx : Lim x0 x1 x2 x3) : (fI (val x0 x1 x2 x3)) < 9218868437227405312 := fN_lt (by have := log_256 (n := (val x0 x1 x2 x3).toNat) (by have := val_hi hx; have := val_lo hx; omega); omega)
theorem fI_ps {x0 x1 x2 x3 : Int} (hx : Lim x0 x1 x2 x3) : Ps (fI (val x0 x1 x2 x3)) ∧ FinX (fI (val x0 x1 x2 x3)) := by
  have h := fI_fin hx
  refine ⟨ps_word (by omega), by omega, ?_⟩
  unfold rung; omega
theorem fI_eq {x0 x1 x2 x3 : Int} (hx : Lim x0 x1 x2 x3) : (FloatKind.f64.format.order (fI (val x0 x1 x2 x3)) (fI (val x0 x1 x2 x3)) == some Ordering.eq) = true := ps_eq (fI_ps hx).1
theorem fin_eq {a : Nat} (h : FinX a) : (FloatKind.f64.format.order a a == some Ordering.eq) = true := order_self h.fin
theorem tw_fin {a b : Nat} (ha : FinX a) (hb : FinX b) : ∀ q, FinX (tw q (a, b)).1 ∧ FinX (tw q (a, b)).2
  | 0 => ⟨ha, hb⟩
  | q + 1 => ⟨(tw_fin ha hb q).2.neg, (tw_fin ha hb q).1⟩
end Go.Proofs.Ytjildnmcjggfaaa
