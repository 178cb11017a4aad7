/-
  A region that draws its order, with loads of structs taken first. Of no program.
-/
import Derived.Deep.RegionHeld3
namespace Go.Proofs.Ytcehppekcbbaaab
set_option linter.unusedVariables false

section
variable {P : Program} {ops : Array Oper} {S : World → Prop} {a : Act} {o : Oper}

theorem yields_load (hw : Region.wanted o (yielded ops a.tmps) = true) (t : TypeId) (x : Operand) (ho : o.op = .load t x) (u v : Value) (hu : a.eval x = u) (hv : ∀ y, S y → (Instr.loadAt t u).run P y = .ok v y) : YieldsIf P ops S o v a :=
  Or.inl ⟨hw, fun y hy => by unfold execOp; simp only [ho, hu, Sem.run_bind, hv y hy, Result.andThen_ok, Sem.run_pure]⟩
end
end Go.Proofs.Ytcehppekcbbaaab
