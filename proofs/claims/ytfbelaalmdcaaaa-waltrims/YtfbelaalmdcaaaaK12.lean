/-
  Texts that lean on one another, one behind the other: each opens with its own remark.
-/
import Derived.Test.YtfbelaalmdcaaaaK00
import Derived.Test.YtfbelaalmdcaaaaK11
import Derived.Test.YtfbelaalmdcaaaaK09
import Derived.Test.YtfbelaalmdcaaaaK10

/-
  The contract of quaysideref06.Right, of checkpoints.
-/
namespace Go.Proofs.Ytfbelaalmdcaaaa
open Go.RowKit
set_option linter.unusedVariables false

end Go.Proofs.Ytfbelaalmdcaaaa

/-
  The contract of quaysideref06.Right, whole.
-/
namespace Go.Proofs.Ytfbelaalmdcaaaa
open Go.RowKit
set_option linter.unusedVariables false

end Go.Proofs.Ytfbelaalmdcaaaa
