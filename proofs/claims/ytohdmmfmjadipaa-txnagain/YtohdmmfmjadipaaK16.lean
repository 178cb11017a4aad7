/-
  Texts that lean on one another, one behind the other: each opens with its own remark.
-/
import Derived.Test.YtohdmmfmjadipaaK15
import Derived.Test.YtohdmmfmjadipaaK14

/-
  The document's Decode: kind 8.
-/
namespace Go.Proofs.Ytohdmmfmjadipaa
open Go.RowKit
set_option linter.unusedVariables false

end Go.Proofs.Ytohdmmfmjadipaa

/-
  The document's Decode: a kind that is none.
-/
namespace Go.Proofs.Ytohdmmfmjadipaa
open Go.RowKit
set_option linter.unusedVariables false

end Go.Proofs.Ytohdmmfmjadipaa
