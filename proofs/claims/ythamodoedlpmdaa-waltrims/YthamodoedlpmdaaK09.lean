/-
  Texts that lean on one another, one behind the other: each opens with its own remark.
-/
import Derived.Test.YthamodoedlpmdaaK00

/-
  The contract of quaysideref06.rows.
-/
namespace Go.Proofs.Ythamodoedlpmdaa
open Go.RowKit
set_option linter.unusedVariables false

/-- THE CONTRACT. -/
noncomputable def Rec.rowsB (r : Rec) : Bool := @decide r.rows (Classical.propDecidable _)
theorem rowsB_iff {r : Rec} : r.rowsB = true ↔ r.rows := by
  unfold Rec.rowsB
  exact @decide_eq_true_iff _ (Classical.propDecidable _)
end Go.Proofs.Ythamodoedlpmdaa
