
/- Calls whose answer is known, as facts; the reference's Add, Rest where the answer is known. -/
import Derived.Test.YtdnddkkpcbaepaaF1
import Derived.Test.YtdnddkkpcbaepaaD7
import Derived.Test.YtdnddkkpcbaepaaV1
set_option linter.unusedSimpArgs false
set_option linter.unusedVariables false
namespace Go.Proofs.Ytdnddkkpcbaepaa
open Go.RowKit

/-- A call answers this, and writes nothing that was there. -/
def Says (f : Nat) (args : Array Value) (v : Value) : Prop := ∀ w, Calls Try.prog f args w fun e w' => e = .returned v ∧ Below w.heap.size w w'
theorem Says.at {f : Nat} {args : Array Value} {v : Value} (h : Says f args v) (w : World) : Calls Try.prog f args w fun e w' => e = .returned v ∧ Below w.heap.size w w' := h w

end Go.Proofs.Ytdnddkkpcbaepaa
