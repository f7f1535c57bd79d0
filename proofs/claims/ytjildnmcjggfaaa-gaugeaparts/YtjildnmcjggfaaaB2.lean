
/- The reference's Same, of bytes; num.Parse of "007". -/
import Derived.Test.YtjildnmcjggfaaaB1
set_option linter.unusedSimpArgs false
set_option linter.unusedVariables false
namespace Go.Proofs.Ytjildnmcjggfaaa
open Go.RowKit

end Go.Proofs.Ytjildnmcjggfaaa
