/-
  The walk of PackReads: it returns true, and turns nothing that was there.
-/
import Derived.Test.YtbmodhclhifckaaPackAwake
import Derived.Test.YtbmodhclhifckaaPackTakeText
import Derived.Test.YtbmodhclhifckaaPackRefTakeText
import Derived.OpenShut
namespace Go.Proofs.Ytbmodhclhifckaa.packReads
open Go.RowKit
set_option linter.unusedVariables false

set_option maxHeartbeats 400000 in
theorem walk (a0 : ByteArray) (a1 : Int) (z0 : a0.size ≤ 140737488351232) (w1 : (Lit.int .i64 a1).wf = true) (w : World) :
    Calls Try.prog 6 #[.string a0, .int .i64 a1] w fun e w' => e = .returned (.bool true) ∧ Below w.heap.size w w' := by
  have hp : a1 ≤ 9223372036854775807 := (bounds_i64 w1).2
  have hcv := fun w => Lib.run_convert_string_bytes (P := Try.prog) w 9 24 5 a0 Try.underlying9 Try.underlying24 Try.underlying5
  clear w1
  go_enter Try.func6, Try.ntmps6
  go_wp2_with fail
  refine (awake_any _).mono ?_
  rintro e w1 ⟨rfl, hb1⟩
  go_wp2_with fail
  refine (ttext_any _ _ _ a0.data.toList a1 _ (isB_conv w1 _ a0) (by omega) (grownCap_ge _ _ _ _) hp).mono ?_
  rintro e w2 ⟨rfl, rfl⟩
  go_wp2_with fail
  refine (rttext_any a0 a1 _ (by omega)).mono ?_
  rintro e w2 ⟨rfl, rfl⟩
  go_wp2
  go_ret
  exact ⟨rfl, hb1.trans ((below_conv w1 _ a0).mono hb1.size)⟩
end Go.Proofs.Ytbmodhclhifckaa.packReads
