/-
  A list of structs that lies in memory. Of no program.
-/
import Derived.Test.YtmlbghloddiflaaRowMem
import Derived.Deep.MidRow
namespace Go.Proofs.Ytmlbghloddiflaa
open Go.RowKit
set_option linter.unusedVariables false

/-- A list of structs that lies there. -/
def RowsIn {α : Type} (f : α → Array Value) (z : α) (n : Nat) (w : World) (v : Value) (xs : List α) : Prop :=
  ∃ a cap, v = .slice a xs.length cap ∧ (0 < xs.length → ∃ b off, a = some ⟨b, off, none⟩ ∧ b < w.heap.size ∧ ∀ i, i < xs.length → w.rangeAt b (off + i * n) (f (xs.getD i z)).toList)
theorem rangeAt_below {w w' : World} {b o B : Nat} {cs : List Value} (h : w.rangeAt b o cs) (hb : Below B w w') (hB : b < B) : w'.rangeAt b o cs := fun j v hv => by
  rw [hb.cell (p := ⟨b, o + j, none⟩) hB]
  exact h j v hv
theorem RowsIn.below {α : Type} {f : α → Array Value} {z : α} {n : Nat} {w w' : World} {v : Value} {xs : List α} (h : RowsIn f z n w v xs) (hb : Below w.heap.size w w') : RowsIn f z n w' v xs := by
  obtain ⟨a, cap, h1, h2⟩ := h
  refine ⟨a, cap, h1, fun hp => ?_⟩
  obtain ⟨b, off, h3, h4, h5⟩ := h2 hp
  exact ⟨b, off, h3, Nat.lt_of_lt_of_le h4 hb.size, fun i hi => rangeAt_below (h5 i hi) hb h4⟩
end Go.Proofs.Ytmlbghloddiflaa
