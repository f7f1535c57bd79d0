
/- Arguments as they come in: lists of the law's Some. -/
import Derived.Test.YtjhjgncnadhbhaaV
set_option linter.unusedSimpArgs false
set_option linter.unusedVariables false
set_option maxRecDepth 20000
namespace Go.Proofs.Ytjhjgncnadhbhaa
open Go.ChangeShapes Go.WideShapes Go.ChangeAt Go.RowKit
variable {H : Type} {enc : TypeId × Value → H} {w : World} {base : Nat} {spare : Nat → Bool} {held : Bool} {fuel : Nat} {cs : List Value} {x : DataW H × List MemPlace}

theorem slice_len' {t e : TypeId} {a : Option Addr} {len cap : Nat} (ht : Try.prog.underlying t = some (.slice e)) (h : DataW.trod enc Try.prog w base spare held fuel t [.slice a len cap] = some x) : len ≤ 9223372036854775807 := by
  rcases Deep.open_slice ht h with ⟨e, -⟩ | ⟨ad, len', cap', m, n, D, Pl, e, hb, hl, hm, hmm, -, hall⟩
  · simp at e; omega
  · simp at e; unfold maxLen at hm; omega

end Go.Proofs.Ytjhjgncnadhbhaa
