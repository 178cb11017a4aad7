/-
  Texts that lean on one another, one behind the other: each opens with its own remark.
-/
import Derived.Test.YtmdhnfeepadfaaaK00
import Derived.Test.YtmdhnfeepadfaaaK10
import Derived.Test.YtmdhnfeepadfaaaK08
import Derived.Test.YtmdhnfeepadfaaaK09

/-
  The contract of quaysideref06.Right, of checkpoints.
-/
namespace Go.Proofs.Ytmdhnfeepadfaaa
open Go.RowKit
set_option linter.unusedVariables false

end Go.Proofs.Ytmdhnfeepadfaaa

/-
  The contract of quaysideref06.Right, whole.
-/
namespace Go.Proofs.Ytmdhnfeepadfaaa
open Go.RowKit
set_option linter.unusedVariables false

end Go.Proofs.Ytmdhnfeepadfaaa
