
/- num.Rest, Least, Mul. -/
import Derived.Test.YtjildnmcjggfaaaD
import Derived.Test.YtjildnmcjggfaaaG
set_option linter.unusedSimpArgs false
set_option linter.unusedVariables false
namespace Go.Proofs.Ytjildnmcjggfaaa
open Go.RowKit

end Go.Proofs.Ytjildnmcjggfaaa
