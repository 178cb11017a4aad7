/-
  Texts that lean on one another, one behind the other: each opens with its own remark.
-/
import Derived.Test.YtfbelaalmdcaaaaK00

/-
  The contract of quaysideref06.rows.
-/
namespace Go.Proofs.Ytfbelaalmdcaaaa
open Go.RowKit
set_option linter.unusedVariables false

/-- THE CONTRACT. -/
def Rec.rowsB (r : Rec) : Bool := @decide r.rows r.rowsD
theorem rowsB_iff {r : Rec} : r.rowsB = true ↔ r.rows := by
  unfold Rec.rowsB
  exact @decide_eq_true_iff _ r.rowsD
end Go.Proofs.Ytfbelaalmdcaaaa
