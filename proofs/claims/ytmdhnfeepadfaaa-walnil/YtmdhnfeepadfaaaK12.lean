/-
  Texts that lean on one another, one behind the other: each opens with its own remark.
-/
import Derived.Test.YtmdhnfeepadfaaaK05

/-
  The contract of quaysideref06.Bytes, of changes.
-/
namespace Go.Proofs.Ytmdhnfeepadfaaa
open Go.RowKit
set_option linter.unusedVariables false

end Go.Proofs.Ytmdhnfeepadfaaa
