/-
  Texts that lean on one another, one behind the other: each opens with its own remark.
-/
import Derived.Test.YtmdhnfeepadfaaaK05
import Derived.Test.YtmdhnfeepadfaaaK00

/-
  The contract of quaysideref06.Bytes, of a checkpoint's record.
-/
namespace Go.Proofs.Ytmdhnfeepadfaaa
open Go.RowKit
set_option linter.unusedVariables false

theorem take_flat {α : Type} (f : α → List UInt8) (z : α) (xs : List α) (j : Nat) (hj : j < xs.length) : (xs.take (j + 1)).flatMap f = (xs.take j).flatMap f ++ f (xs.getD j z) := by
  have e : xs.getD j z = xs[j] := by simp [List.getD, hj]
  rw [List.take_succ_eq_append_getElem hj, List.flatMap_append, e]
  simp
theorem mkS_eq {a b : List UInt8} (h : a = b) : mkS a = mkS b := by rw [h]

end Go.Proofs.Ytmdhnfeepadfaaa
