
/- The reference's Rest, Least, Within, Add of coins: the walks. -/
import Derived.Test.YtjhjgncnadhbhaaC10a
set_option linter.unusedSimpArgs false
set_option linter.unusedVariables false
set_option maxRecDepth 20000
namespace Go.Proofs.Ytjhjgncnadhbhaa
open Go.RowKit

end Go.Proofs.Ytjhjgncnadhbhaa
