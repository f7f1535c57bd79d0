
/- num.Read and the reference's Read: the walks. -/
import Derived.Test.YtgphdioolcfmmaaB5
set_option linter.unusedSimpArgs false
set_option linter.unusedVariables false
set_option maxRecDepth 20000
namespace Go.Proofs.Ytgphdioolcfmmaa
open Go.RowKit

end Go.Proofs.Ytgphdioolcfmmaa
