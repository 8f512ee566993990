/- What the document's own Gather returns. -/
import Derived.Test.YtohegpfbplgkpabVec3
import Derived.Test.YtohegpfbplgkpabVec4
namespace Go.Proofs.Ytohegpfbplgkpab
open Go.RowKit Vecm
set_option linter.unusedVariables false

end Go.Proofs.Ytohegpfbplgkpab
