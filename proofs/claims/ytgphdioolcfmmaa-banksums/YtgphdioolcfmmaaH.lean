
/- num.Rest, Least, Mul. -/
import Derived.Test.YtgphdioolcfmmaaD
import Derived.Test.YtgphdioolcfmmaaG
set_option linter.unusedSimpArgs false
set_option linter.unusedVariables false
set_option maxRecDepth 20000
namespace Go.Proofs.Ytgphdioolcfmmaa
open Go.RowKit

end Go.Proofs.Ytgphdioolcfmmaa
