
/- num.Rest, Least, Mul. -/
import Derived.Test.YtdnddkkpcbaepaaD
import Derived.Test.YtdnddkkpcbaepaaG
set_option linter.unusedSimpArgs false
set_option linter.unusedVariables false
namespace Go.Proofs.Ytdnddkkpcbaepaa
open Go.RowKit

end Go.Proofs.Ytdnddkkpcbaepaa
