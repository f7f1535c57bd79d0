
/- num.Rest, Least, Mul. -/
import Derived.Test.YtpdokkhpeoeebaaD
import Derived.Test.YtpdokkhpeoeebaaG
set_option linter.unusedSimpArgs false
set_option linter.unusedVariables false
set_option maxRecDepth 20000
namespace Go.Proofs.Ytpdokkhpeoeebaa
open Go.RowKit

end Go.Proofs.Ytpdokkhpeoeebaa
