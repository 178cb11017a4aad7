/-
  The eight cells of two pages held against each other by ==.
-/
import Derived.Test.YtcehppekcbbaaaaChangeFacts
import Derived.Test.YtcehppekcbbaaaaPageCells
namespace Go.Proofs.Ytcehppekcbbaaaa
open Go.RowKit
set_option linter.unusedVariables false

theorem csA_same {p q : Pg} (h : ∀ i, i < 8 → p.u i = q.u i ∧ p.s i = q.s i) : csA p = csA q := by
  unfold csA
  rw [(h 0 (by omega)).1, (h 0 (by omega)).2, (h 1 (by omega)).1, (h 1 (by omega)).2, (h 2 (by omega)).1, (h 2 (by omega)).2, (h 3 (by omega)).1, (h 3 (by omega)).2, (h 4 (by omega)).1, (h 4 (by omega)).2, (h 5 (by omega)).1, (h 5 (by omega)).2, (h 6 (by omega)).1, (h 6 (by omega)).2, (h 7 (by omega)).1, (h 7 (by omega)).2]

theorem lits_cells (p : Pg) (h : p.fits) : Try.prog.keyLits 3 25 (csA p).toList = some (litsP p).tail := by
  have e1 : Try.prog.cellsOf 25 = 16 := by kernel_rfl
  have e2 : Try.prog.cellsOf 24 = 2 := by kernel_rfl
  have r8 : List.range 8 = [0, 1, 2, 3, 4, 5, 6, 7] := rfl
  have c0 := cell_lits (p.u 0) (p.s 0) (h.2 0 (by omega))
  have c1 := cell_lits (p.u 1) (p.s 1) (h.2 1 (by omega))
  have c2 := cell_lits (p.u 2) (p.s 2) (h.2 2 (by omega))
  have c3 := cell_lits (p.u 3) (p.s 3) (h.2 3 (by omega))
  have c4 := cell_lits (p.u 4) (p.s 4) (h.2 4 (by omega))
  have c5 := cell_lits (p.u 5) (p.s 5) (h.2 5 (by omega))
  have c6 := cell_lits (p.u 6) (p.s 6) (h.2 6 (by omega))
  have c7 := cell_lits (p.u 7) (p.s 7) (h.2 7 (by omega))
  unfold Program.keyLits
  simp [Try.underlying25, e1, e2, r8, c0, c1, c2, c3, c4, c5, c6, c7, litsP, csA]

theorem run_cells_self (p : Pg) (hp : p.fits) (w : World) : (binOp .eql 25 (.agg (csA p)) (.agg (csA p))).run Try.prog w = .ok (.bool true) w := by
  obtain ⟨r, hr, hiff⟩ := run_equalIn_deep (P := Try.prog) 9997 3 25 (by kernel_rfl) w 3 3 (.agg (csA p)) (.agg (csA p)) _ _ (by kernel_rfl) (by kernel_rfl) (lits_cells p hp) (lits_cells p hp)
  have e : r = true := hiff.2 rfl
  rw [e] at hr
  have hr2 : (Op.equal 25 (.agg (csA p)) (.agg (csA p))).run Try.prog w = .ok true w := hr
  simp [binOp, hr2]
theorem cells_guard (op : BinOp) (x y : Operand) (p q : Pg) (w : World) : (eqGuard op 25 x y (.agg (csA p)) (.agg (csA q))).run Try.prog w = .ok () w := run_eqGuard_agg (P := Try.prog) w op 25 x y (csA p) (csA q) (by kernel_rfl)
end Go.Proofs.Ytcehppekcbbaaaa
