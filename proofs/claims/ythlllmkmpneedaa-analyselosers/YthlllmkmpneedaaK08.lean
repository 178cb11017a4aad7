/-
  Texts that lean on one another, one behind the other: each opens with its own remark.
-/
import Derived.Test.YthlllmkmpneedaaK07
import Derived.Test.YthlllmkmpneedaaK00
import Derived.Test.YthlllmkmpneedaaK03

namespace Go.Proofs.Ythlllmkmpneedaa
open Go.RowKit
set_option linter.unusedVariables false
set_option maxRecDepth 8000
set_option maxHeartbeats 25600000
set_option linter.unusedVariables false
set_option linter.unusedVariables false
set_option linter.unusedVariables false
set_option linter.unusedVariables false
end Go.Proofs.Ythlllmkmpneedaa
