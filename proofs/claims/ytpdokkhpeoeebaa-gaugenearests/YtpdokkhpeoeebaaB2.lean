
/- The reference's Same, of bytes; num.Parse of "007". -/
import Derived.Test.YtpdokkhpeoeebaaB1
set_option linter.unusedSimpArgs false
set_option linter.unusedVariables false
set_option maxRecDepth 20000
namespace Go.Proofs.Ytpdokkhpeoeebaa
open Go.RowKit

end Go.Proofs.Ytpdokkhpeoeebaa
