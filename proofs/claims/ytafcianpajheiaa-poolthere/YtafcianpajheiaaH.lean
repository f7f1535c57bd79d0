
/- num.Rest, Least, Mul. -/
import Derived.Test.YtafcianpajheiaaD
import Derived.Test.YtafcianpajheiaaG
set_option linter.unusedSimpArgs false
set_option linter.unusedVariables false
set_option maxRecDepth 20000
namespace Go.Proofs.Ytafcianpajheiaa
open Go.RowKit

end Go.Proofs.Ytafcianpajheiaa
