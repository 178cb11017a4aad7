/-
  The contracts of package page, together.
-/
import Derived.Test.YtkbigineepohnaaPageEnc
import Derived.Test.YtkbigineepohnaaPageDec
