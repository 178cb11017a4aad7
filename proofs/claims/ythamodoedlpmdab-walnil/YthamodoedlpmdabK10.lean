/-
  Texts that lean on one another, one behind the other: each opens with its own remark.
-/
import Derived.Test.YthamodoedlpmdabK00
import Derived.Test.YthamodoedlpmdabK09
import Derived.Test.YthamodoedlpmdabK07
import Derived.Test.YthamodoedlpmdabK08
import Derived.Test.YthamodoedlpmdabK04

/-
  The contract of quaysideref06.Right, of checkpoints.
-/
namespace Go.Proofs.Ythamodoedlpmdab
open Go.RowKit
set_option linter.unusedVariables false

end Go.Proofs.Ythamodoedlpmdab

/-
  The contract of quaysideref06.Right, whole.
-/
namespace Go.Proofs.Ythamodoedlpmdab
open Go.RowKit
set_option linter.unusedVariables false

end Go.Proofs.Ythamodoedlpmdab

/-
  The contract of quaysideref06.Bytes, of changes.
-/
namespace Go.Proofs.Ythamodoedlpmdab
open Go.RowKit
set_option linter.unusedVariables false

end Go.Proofs.Ythamodoedlpmdab
