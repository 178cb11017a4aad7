/-
  A slice that came in, by its cells: what a walk is told of it. Of no program.
-/
import Derived.WalkKit
namespace Go.Proofs.Ytmlbghloddiflaa
open Go.RowKit
set_option linter.unusedVariables false

/-- A slice value of so many elements, each of 'sz' cells: element i's cell k holds 'f i k'. -/
def IsRow (w : World) (a : Option Addr) (len sz : Nat) (f : Nat → Nat → Value) : Prop :=
  0 < len → ∃ b off, a = some ⟨b, off, none⟩ ∧ b < w.heap.size ∧ ∀ i k, i < len → k < sz → w.cell? ⟨b, off + (i * sz + k), none⟩ = some (f i k)

theorem IsRow.below {w w' : World} {a : Option Addr} {len sz B : Nat} {f : Nat → Nat → Value} (h : IsRow w a len sz f) (hB : w.heap.size ≤ B) (hb : Below B w w') : IsRow w' a len sz f := by
  intro hp
  obtain ⟨b, off, ha, hlt, hc⟩ := h hp
  exact ⟨b, off, ha, Nat.lt_of_lt_of_le hlt hb.size, fun i k hi hk => (hb.cell (p := ⟨b, off + (i * sz + k), none⟩) (Nat.lt_of_lt_of_le hlt hB)).trans (hc i k hi hk)⟩
end Go.Proofs.Ytmlbghloddiflaa
