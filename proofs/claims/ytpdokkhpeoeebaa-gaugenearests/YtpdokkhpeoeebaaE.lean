
/- The walk of num.downward and what it makes (a range over a function), and of cmp.Compare. -/
import Derived.Test.YtpdokkhpeoeebaaN2
import Derived.RangeFuncNested
import Derived.RangeFuncBound
import Derived.RangeFuncCalls
import Derived.RangeFuncLeaves
import Derived.Shelf.Abstract
import Derived.Shelf.RegionOpen
import Derived.OwnWalkIn
import Derived.TacticsInMore
import Derived.LoopNIn
import Derived.LoopIn
import Derived.Test.YtpdokkhpeoeebaaB
set_option linter.unusedSimpArgs false
set_option linter.unusedVariables false
set_option maxRecDepth 20000
namespace Go.Proofs.Ytpdokkhpeoeebaa
open Go.RowKit Go.Shelf
attribute [local go_sem] Oper.semAt_some

/-- A place and a part of a number: what a round is handed. -/
abbrev Limb := { p : Nat × Int // p.1 < 4 ∧ (0 ≤ p.2 ∧ p.2 < 18446744073709551616) }
abbrev lencs (x : Limb) : Array Value := #[.int .i64 (x.1.1 : Int), .int .u64 x.1.2]
def limb (i : Nat) (v : Int) (hi : i < 4) (hv : 0 ≤ v ∧ v < 18446744073709551616) : Limb := ⟨(i, v), hi, hv⟩
/-- The four rounds, the highest part first. -/
def limbsDown {a b c d : Int} (h : Lim a b c d) : List Limb := [limb 3 d (by omega) h.2.2.2, limb 2 c (by omega) h.2.2.1, limb 1 b (by omega) h.2.1, limb 0 a (by omega) h.1]
/-- Block B lies as it lay. -/
def KpB (B : Nat) (W W' : World) : Prop := W'.heap[B]? = W.heap[B]?

end Go.Proofs.Ytpdokkhpeoeebaa
