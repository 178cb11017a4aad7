/-
  Changes in memory.
-/
import Derived.Test.YtmapgfakfeddmaaProg
import Derived.Test.YtmapgfakfeddmaaChangeMath
import Derived.Test.YtmapgfakfeddmaaRowMem
namespace Go.Proofs.Ytmapgfakfeddmaa
open Go.RowKit
set_option linter.unusedVariables false

/-- A change in memory. -/
def ChAt (w : World) (b : Nat) (c : Ch) : Prop := w.heap[b]? = some (.cells (chA c) 24 (0, 0))
theorem ChAt.all {w : World} {b : Nat} {c : Ch} (h : ChAt w b c) : w.cell? ⟨b, 0, none⟩ = some (.int .i64 c.k) ∧ w.cell? ⟨b, 1, none⟩ = some (.int .i64 c.pg) ∧ w.cell? ⟨b, 2, none⟩ = some (.int .i64 c.sl) ∧ w.cell? ⟨b, 3, none⟩ = some (.string c.o) ∧ w.cell? ⟨b, 4, none⟩ = some (.string c.n) := by
  refine ⟨?_, ?_, ?_, ?_, ?_⟩ <;> (rw [cell_of_row w b _ _ _ (0, 0) h]; rfl)
theorem ChAt.below {w w' : World} {b B : Nat} {c : Ch} (h : ChAt w b c) (hb : Below B w w') (hB : b < B) : ChAt w' b c := (hb.block b hB).trans h
theorem ChAt.lt {w : World} {b : Nat} {c : Ch} (h : ChAt w b c) : b < w.heap.size := (Array.getElem?_eq_some_iff.1 h).1

theorem infoCh : (Try.prog.info? 24).map (·.size) = some 5 := by kernel_rfl
theorem chA_one (c : Ch) : (chA c).all (·.oneCell') = true := by simp [chA, Value.oneCell']
end Go.Proofs.Ytmapgfakfeddmaa
