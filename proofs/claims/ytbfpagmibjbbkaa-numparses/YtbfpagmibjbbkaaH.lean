
/- num.Rest, Least, Mul. -/
import Derived.Test.YtbfpagmibjbbkaaD
import Derived.Test.YtbfpagmibjbbkaaG
set_option linter.unusedSimpArgs false
set_option linter.unusedVariables false
namespace Go.Proofs.Ytbfpagmibjbbkaa
open Go.RowKit

end Go.Proofs.Ytbfpagmibjbbkaa
