/-
  The contract of record.used: what all kinds share.
-/
import Derived.Test.YtmapgfakfeddmaaRecRefOwn
import Derived.Test.YtmapgfakfeddmaaRecUse
import Derived.Test.YtmapgfakfeddmaaRowOne
namespace Go.Proofs.Ytmapgfakfeddmaa
open Go.RowKit
set_option linter.unusedVariables false
theorem Keeps.setTop {w x : World} {g : Nat} {t : TypeId} {cs : Array Value} {l : List (Nat × TypeId × Array Value)} (h : Keeps w x ((g, t, cs) :: l)) (hg : w.heap.size ≤ g) (hl : ∀ e ∈ l, e.1 ≠ g) (j : Nat) (v : Value) : Keeps w (x.setCell ⟨g, j, none⟩ v) ((g, t, cs.setIfInBounds j v) :: l) := by
  refine ⟨⟨h.1.1.set j v, ?_⟩, h.2.setCell hg v⟩
  have : ∀ l : List (Nat × TypeId × Array Value), (∀ e ∈ l, e.1 ≠ g) → Has x l → Has (x.setCell ⟨g, j, none⟩ v) l := by
    intro l
    induction l with
    | nil => exact fun _ _ => trivial
    | cons e l ih => exact fun hl hh => ⟨hh.1.other _ _ (hl e (by simp)), ih (fun e he => hl e (by simp [he])) hh.2⟩
  exact this l hl h.1.2
theorem row_there {w : World} {g : Nat} {t : TypeId} {cs : Array Value} (h : RowAt w g t cs) (o n : Nat) (hn : o + n ≤ cs.size) : w.there g o n := fun j hj => ⟨by rw [h.cell (o + j) _ (Array.getElem?_eq_getElem (by omega))]; rfl, h.free _⟩
/-- A list's value in a record that holds what its kind uses. -/
def uV (r : Rec) (v : Value) : Value := if r.k = 8 then v else .slice none 0 0
theorem _root_.Go.RowKit.Below.set1 {B : Nat} {w w' : World} (h : Below B w w') {g : Nat} (hg : B ≤ g) (j : Nat) (v : Value) : Below B w (w'.setCell ⟨g, j, none⟩ v) := h.setCell hg v
end Go.Proofs.Ytmapgfakfeddmaa
