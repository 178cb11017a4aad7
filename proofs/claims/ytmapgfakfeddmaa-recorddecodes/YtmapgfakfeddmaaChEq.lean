/-
  Two changes held against each other by == or !=.
-/
import Derived.Test.YtmapgfakfeddmaaChMem
import Derived.DeepKeys
import Derived.Laws.StructEq
namespace Go.Proofs.Ytmapgfakfeddmaa
open Go.RowKit
set_option linter.unusedVariables false

/-- A change whose numbers and texts a machine can have. -/
def Ch.fits (c : Ch) : Prop := (Lit.int .i64 c.k).wf = true ∧ (Lit.int .i64 c.pg).wf = true ∧ (Lit.int .i64 c.sl).wf = true ∧ c.o.size ≤ maxLen ∧ c.n.size ≤ maxLen
/-- Two changes are alike. -/
abbrev Ch.like (a b : Ch) : Prop := a.k = b.k ∧ a.pg = b.pg ∧ a.sl = b.sl ∧ a.o = b.o ∧ a.n = b.n
theorem like_iff (a b : Ch) : a.like b ↔ a = b := by
  constructor
  · rintro ⟨h1, h2, h3, h4, h5⟩
    cases a
    cases b
    simp_all
  · rintro rfl
    exact ⟨rfl, rfl, rfl, rfl, rfl⟩

def litsC (c : Ch) : List Lit := [.int .i64 c.k, .int .i64 c.pg, .int .i64 c.sl, .string c.o.data.toList, .string c.n.data.toList]
theorem litsC_iff (c d : Ch) : litsC c = litsC d ↔ c = d := by
  unfold litsC
  simp only [List.cons.injEq, and_true, Lit.int.injEq, Lit.string.injEq, data_inj, true_and]
  constructor
  · rintro ⟨h1, h2, h3, h4, h5⟩
    cases c
    cases d
    simp_all
  · rintro rfl
    exact ⟨rfl, rfl, rfl, rfl, rfl⟩

theorem lits_change (c : Ch) (h : c.fits) : Try.prog.keyLits 2 24 (chA c).toList = some (litsC c) := by
  have e0 : Try.prog.cellsOf 3 = 1 := by kernel_rfl
  have e1 : Try.prog.cellsOf 9 = 1 := by kernel_rfl
  have e2 : Try.prog.cellsOf 24 = 5 := by kernel_rfl
  obtain ⟨h1, h2, h3, h4, h5⟩ := h
  simp [Program.keyLits, Try.underlying24, Try.underlying3, Try.underlying9, e0, e1, e2, chA, litsC, h1, h2, h3, h4, h5]

theorem run_change_eql (c d : Ch) (hc : c.fits) (hd : d.fits) (w : World) : (binOp .eql 24 (.agg (chA c)) (.agg (chA d))).run Try.prog w = .ok (.bool (decide (c.like d))) w := by
  obtain ⟨r, hr, hiff⟩ := run_equalIn_deep (P := Try.prog) 9998 2 24 (by kernel_rfl) w 2 2 (.agg (chA c)) (.agg (chA d)) (litsC c) (litsC d) (by kernel_rfl) (by kernel_rfl) (lits_change c hc) (lits_change d hd)
  have e : r = decide (c.like d) := by
    rw [Bool.eq_iff_iff, hiff, litsC_iff, decide_eq_true_iff, like_iff]
  rw [e] at hr
  have hr2 : (Op.equal 24 (.agg (chA c)) (.agg (chA d))).run Try.prog w = .ok (decide (c.like d)) w := hr
  simp [binOp, hr2]
theorem run_change_neq (c d : Ch) (hc : c.fits) (hd : d.fits) (w : World) : (binOp .neq 24 (.agg (chA c)) (.agg (chA d))).run Try.prog w = .ok (.bool (!decide (c.like d))) w := by
  obtain ⟨r, hr, hiff⟩ := run_equalIn_deep (P := Try.prog) 9998 2 24 (by kernel_rfl) w 2 2 (.agg (chA c)) (.agg (chA d)) (litsC c) (litsC d) (by kernel_rfl) (by kernel_rfl) (lits_change c hc) (lits_change d hd)
  have e : r = decide (c.like d) := by
    rw [Bool.eq_iff_iff, hiff, litsC_iff, decide_eq_true_iff, like_iff]
  rw [e] at hr
  have hr2 : (Op.equal 24 (.agg (chA c)) (.agg (chA d))).run Try.prog w = .ok (decide (c.like d)) w := hr
  simp [binOp, hr2]
theorem change_guard (op : BinOp) (x y : Operand) (c d : Ch) (w : World) : (eqGuard op 24 x y (.agg (chA c)) (.agg (chA d))).run Try.prog w = .ok () w := run_eqGuard_agg (P := Try.prog) w op 24 x y (chA c) (chA d) (by kernel_rfl)
end Go.Proofs.Ytmapgfakfeddmaa
