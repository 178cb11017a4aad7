/-
  What Encode answers.
-/
import Derived.Test.YtmapgfakfeddmabRecMath
namespace Go.Proofs.Ytmapgfakfeddmab
open Go.RowKit
set_option linter.unusedVariables false

/-- What 'Encode' answers. -/
noncomputable def encE (r : Rec) : Int := if r.rightB = true then 0 else 1
noncomputable def encL (r : Rec) : List UInt8 := if r.rightB = true then recB r else []

end Go.Proofs.Ytmapgfakfeddmab
