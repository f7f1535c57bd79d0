
/- Calls whose answer is known, as facts; the reference's Add, Rest where the answer is known. -/
import Derived.Test.YtbfpagmibjbbkaaF1
import Derived.Test.YtbfpagmibjbbkaaD7
import Derived.Test.YtbfpagmibjbbkaaV1
set_option linter.unusedSimpArgs false
set_option linter.unusedVariables false
namespace Go.Proofs.Ytbfpagmibjbbkaa
open Go.RowKit

/-- A call answers this, and writes nothing that was there. -/
def Says (f : Nat) (args : Array Value) (v : Value) : Prop := ∀ w, Calls Try.prog f args w fun e w' => e = .returned v ∧ Below w.heap.size w w'
theorem Says.at {f : Nat} {args : Array Value} {v : Value} (h : Says f args v) (w : World) : Calls Try.prog f args w fun e w' => e = .returned v ∧ Below w.heap.size w w' := h w

theorem says_halves : Says 7 #[] (.bool true) := fun w => halves_any w
theorem says_add {x0 x1 x2 x3 y0 y1 y2 y3 z0 z1 z2 z3 : Int} (hx : Lim x0 x1 x2 x3) (hy : Lim y0 y1 y2 y3) (hz : Lim z0 z1 z2 z3) (he : val z0 z1 z2 z3 = val x0 x1 x2 x3 + val y0 y1 y2 y3) : Says 27 #[.agg #[.int .u64 x0, .int .u64 x1, .int .u64 x2, .int .u64 x3], .agg #[.int .u64 y0, .int .u64 y1, .int .u64 y2, .int .u64 y3]] (.tuple #[.agg #[.int .u64 z0, .int .u64 z1, .int .u64 z2, .int .u64 z3], .int .i64 0]) := fun w => add_fit hx hy hz he w
theorem says_add_over {x0 x1 x2 x3 y0 y1 y2 y3 : Int} (hx : Lim x0 x1 x2 x3) (hy : Lim y0 y1 y2 y3) (he : 115792089237316195423570985008687907853269984665640564039457584007913129639936 ≤ val x0 x1 x2 x3 + val y0 y1 y2 y3) : Says 27 #[.agg #[.int .u64 x0, .int .u64 x1, .int .u64 x2, .int .u64 x3], .agg #[.int .u64 y0, .int .u64 y1, .int .u64 y2, .int .u64 y3]] (.tuple #[.agg #[.int .u64 0, .int .u64 0, .int .u64 0, .int .u64 0], .int .i64 2]) := fun w => add_over hx hy he w
theorem says_cmp {x0 x1 x2 x3 y0 y1 y2 y3 c : Int} (hx : Lim x0 x1 x2 x3) (hy : Lim y0 y1 y2 y3) (h : cmpI (val x0 x1 x2 x3) (val y0 y1 y2 y3) = c) : Says 25 #[.agg #[.int .u64 x0, .int .u64 x1, .int .u64 x2, .int .u64 x3], .agg #[.int .u64 y0, .int .u64 y1, .int .u64 y2, .int .u64 y3]] (.int .i64 c) := by
  subst h; exact fun w => cmp_any _ _ _ _ _ _ _ _ hx hy w
end Go.Proofs.Ytbfpagmibjbbkaa
