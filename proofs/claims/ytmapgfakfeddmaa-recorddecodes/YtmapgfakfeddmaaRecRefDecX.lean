/-
  The document's Decode: how its walk is cut.
-/
import Derived.Test.YtmapgfakfeddmaaRecRefDec0
namespace Go.Proofs.Ytmapgfakfeddmaa
open Go.RowKit
set_option linter.unusedVariables false

/-- A place at which a walk halts. -/
def Halt (p : Prop) : Prop := p
theorem halt {p : Prop} (h : Halt p) : p := h
theorem unhalt {p : Prop} (h : p) : Halt p := h
/-- A store of one cell. -/
theorem wpList_store_one {P : Program} {ops : Array Oper} {rest : List Oper} {o : Oper} {a : Act} {w : World} {Q : Exit → Act → World → Prop} (hgd : o.guard = none) (t : TypeId) (x y : Operand) (ho : o.op = .store t x y) (b j : Nat) (u : Value) (hx : a.eval x = .pointer (some ⟨b, j, none⟩)) (hy : a.eval y = u)
    (hr : (Instr.storeAt t (.pointer (some ⟨b, j, none⟩)) u).run P w = .ok () (w.setCell ⟨b, j, none⟩ u)) (h : wpList P ops Q rest (a.put o.dst undef) (w.setCell ⟨b, j, none⟩ u)) : wpList P ops Q (o :: rest) a w :=
  wpList_plain hgd fun K hK => by
    unfold Oper.wp execOp
    simp only [ho, hx, hy, Sem.run_bind, hr, Result.andThen_ok, Sem.run_pure]
    exact hK _ _ h
end Go.Proofs.Ytmapgfakfeddmaa
