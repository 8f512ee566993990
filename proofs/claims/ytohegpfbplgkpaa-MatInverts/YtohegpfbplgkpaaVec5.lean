/- What the document's own Gather returns. -/
import Derived.Test.YtohegpfbplgkpaaVec3
import Derived.Test.YtohegpfbplgkpaaVec4
namespace Go.Proofs.Ytohegpfbplgkpaa
open Go.RowKit Vecm
set_option linter.unusedVariables false

end Go.Proofs.Ytohegpfbplgkpaa
