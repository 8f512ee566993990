/- What vec's inner sum of rows returns. -/
import Derived.Test.YtojjbijendlpbaaVec1
import Derived.Deep.RegionWith
namespace Go.Proofs.Ytojjbijendlpbaa
open Go.RowKit Vecm
set_option linter.unusedVariables false

/-- What the rows add up to, or that they are not of one length. -/
def sumV (ss : List ByteArray) : Value := .tuple #[.string (sumS ss), .int .i64 (sumE ss)]

end Go.Proofs.Ytojjbijendlpbaa
