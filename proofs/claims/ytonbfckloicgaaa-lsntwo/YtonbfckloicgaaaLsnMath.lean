/-
  Plain facts on numbers of records, of no program: the order of numbers and nodes; lists that rise; what a clock answers.
-/
import Derived.WalkKit
namespace Go.Proofs.Ytonbfckloicgaaa
open Go.RowKit
set_option linter.unusedVariables false

/-- The greatest number, and the greatest one that is not spare. -/
def maxL : Nat := 4611686018427387904
def topL : Nat := 4611686018427322368

/-- A fact kept from the walk. -/
theorem hideL {p : Prop} (h : p) : Hid p := h

/-- The order of numbers of nodes. -/
def bef (a : Nat) (i : Int) (b : Nat) (j : Int) : Bool := decide (a < b) || (decide (a = b) && decide (i < j))
theorem bef_iff (a b : Nat) (i j : Int) : bef a i b j = true ↔ (a < b ∨ a = b ∧ i < j) := by simp [bef]
theorem bef_no (a b : Nat) (i j : Int) : bef a i b j = false ↔ ¬ (a < b ∨ a = b ∧ i < j) := by
  rw [← bef_iff]
  simp

/-- Numbers that rise. -/
def rises : List Nat → Bool
  | [] => true
  | [_] => true
  | a :: b :: l => decide (a < b) && rises (b :: l)

/-- What 'Next' answers, and the last number behind it. -/
def full (n f : Nat) (s : Bool) : Bool := decide (maxL ≤ max n f) || (!s && decide (topL ≤ max n f))
def nextS (n f : Nat) (s : Bool) : Int × Int := if full n f s then (0, 7) else ((max n f + 1 : Nat), 0)
def nextN (n f : Nat) (s : Bool) : Nat := if full n f s then n else max n f + 1

/-- A slice value whose elements read as these numbers. -/
def IsU (w : World) (a : Option Addr) (len : Nat) (zs : List Nat) : Prop :=
  zs.length = len ∧ (∀ z ∈ zs, z < 18446744073709551616) ∧ (0 < len → ∃ b off, a = some ⟨b, off, none⟩ ∧ b < w.heap.size ∧ ∀ j, j < len → w.cell? ⟨b, off + j, none⟩ = some (.int .u64 (zs.getD j 0 : Nat)))
theorem IsU.nil (w : World) : IsU w none 0 [] := ⟨rfl, fun _ h => absurd h (by simp), fun h => absurd h (by omega)⟩
theorem IsU.below {w w' : World} {a : Option Addr} {len : Nat} {zs : List Nat} (h : IsU w a len zs) (hb : Below w.heap.size w w') : IsU w' a len zs := by
  refine ⟨h.1, h.2.1, fun hp => ?_⟩
  obtain ⟨b, off, ha, hlt, hc⟩ := h.2.2 hp
  exact ⟨b, off, ha, Nat.lt_of_lt_of_le hlt hb.size, fun j hj => (hb.cell (p := ⟨b, off + j, none⟩) hlt).trans (hc j hj)⟩
end Go.Proofs.Ytonbfckloicgaaa
