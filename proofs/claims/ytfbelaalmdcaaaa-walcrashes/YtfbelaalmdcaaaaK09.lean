/-
  Texts that lean on one another, one behind the other: each opens with its own remark.
-/
import Derived.Test.YtfbelaalmdcaaaaK00

/-
  The contract of quaysideref06.Right, of changes.
-/
namespace Go.Proofs.Ytfbelaalmdcaaaa
open Go.RowKit
set_option linter.unusedVariables false

end Go.Proofs.Ytfbelaalmdcaaaa
