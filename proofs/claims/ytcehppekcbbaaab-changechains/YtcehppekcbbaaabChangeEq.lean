/-
  Two changes, two cells, and the cells of two pages held against each other by == or !=.
-/
import Derived.Test.YtcehppekcbbaaabPageEq
import Derived.Test.YtcehppekcbbaaabChangeMem
namespace Go.Proofs.Ytcehppekcbbaaab
open Go.RowKit
set_option linter.unusedVariables false

/-- A change whose numbers and texts a machine can have. -/
def Ch.fits (c : Ch) : Prop := (Lit.int .i64 c.k).wf = true ∧ (Lit.int .i64 c.pg).wf = true ∧ (Lit.int .i64 c.sl).wf = true ∧ c.o.size ≤ maxLen ∧ c.n.size ≤ maxLen
/-- Two changes are alike. -/
abbrev Ch.like (a b : Ch) : Prop := a.k = b.k ∧ a.pg = b.pg ∧ a.sl = b.sl ∧ a.o = b.o ∧ a.n = b.n
theorem like_iff (a b : Ch) : a.like b ↔ a = b := by
  constructor
  · rintro ⟨h1, h2, h3, h4, h5⟩
    cases a
    cases b
    simp_all
  · rintro rfl
    exact ⟨rfl, rfl, rfl, rfl, rfl⟩

def litsC (c : Ch) : List Lit := [.int .i64 c.k, .int .i64 c.pg, .int .i64 c.sl, .string c.o.data.toList, .string c.n.data.toList]
theorem litsC_iff (c d : Ch) : litsC c = litsC d ↔ c = d := by
  unfold litsC
  simp only [List.cons.injEq, and_true, Lit.int.injEq, Lit.string.injEq, data_inj, true_and]
  constructor
  · rintro ⟨h1, h2, h3, h4, h5⟩
    cases c
    cases d
    simp_all
  · rintro rfl
    exact ⟨rfl, rfl, rfl, rfl, rfl⟩

theorem lits_change (c : Ch) (h : c.fits) : Try.prog.keyLits 2 34 (chA c).toList = some (litsC c) := by
  have e0 : Try.prog.cellsOf 3 = 1 := by kernel_rfl
  have e1 : Try.prog.cellsOf 9 = 1 := by kernel_rfl
  have e2 : Try.prog.cellsOf 34 = 5 := by kernel_rfl
  obtain ⟨h1, h2, h3, h4, h5⟩ := h
  simp [Program.keyLits, Try.underlying34, Try.underlying3, Try.underlying9, e0, e1, e2, chA, litsC, h1, h2, h3, h4, h5]

theorem run_change_eql (c d : Ch) (hc : c.fits) (hd : d.fits) (w : World) : (binOp .eql 34 (.agg (chA c)) (.agg (chA d))).run Try.prog w = .ok (.bool (decide (c.like d))) w := by
  obtain ⟨r, hr, hiff⟩ := run_equalIn_deep (P := Try.prog) 9998 2 34 (by kernel_rfl) w 2 2 (.agg (chA c)) (.agg (chA d)) (litsC c) (litsC d) (by kernel_rfl) (by kernel_rfl) (lits_change c hc) (lits_change d hd)
  have e : r = decide (c.like d) := by
    rw [Bool.eq_iff_iff, hiff, litsC_iff, decide_eq_true_iff, like_iff]
  rw [e] at hr
  have hr2 : (Op.equal 34 (.agg (chA c)) (.agg (chA d))).run Try.prog w = .ok (decide (c.like d)) w := hr
  simp [binOp, hr2]
theorem run_change_neq (c d : Ch) (hc : c.fits) (hd : d.fits) (w : World) : (binOp .neq 34 (.agg (chA c)) (.agg (chA d))).run Try.prog w = .ok (.bool (!decide (c.like d))) w := by
  obtain ⟨r, hr, hiff⟩ := run_equalIn_deep (P := Try.prog) 9998 2 34 (by kernel_rfl) w 2 2 (.agg (chA c)) (.agg (chA d)) (litsC c) (litsC d) (by kernel_rfl) (by kernel_rfl) (lits_change c hc) (lits_change d hd)
  have e : r = decide (c.like d) := by
    rw [Bool.eq_iff_iff, hiff, litsC_iff, decide_eq_true_iff, like_iff]
  rw [e] at hr
  have hr2 : (Op.equal 34 (.agg (chA c)) (.agg (chA d))).run Try.prog w = .ok (decide (c.like d)) w := hr
  simp [binOp, hr2]
theorem change_guard (op : BinOp) (x y : Operand) (c d : Ch) (w : World) : (eqGuard op 34 x y (.agg (chA c)) (.agg (chA d))).run Try.prog w = .ok () w := run_eqGuard_agg (P := Try.prog) w op 34 x y (chA c) (chA d) (by kernel_rfl)

/-- Cells. -/
def litsE (u : Bool) (s : ByteArray) : List Lit := [.bool u, .string s.data.toList]
theorem litsE_iff (u v : Bool) (s t : ByteArray) : litsE u s = litsE v t ↔ u = v ∧ s = t := by
  unfold litsE
  simp only [List.cons.injEq, and_true, Lit.bool.injEq, Lit.string.injEq, data_inj]
theorem run_cell_eql (u v : Bool) (s t : ByteArray) (hs : s.size ≤ maxLen) (ht : t.size ≤ maxLen) (w : World) : (binOp .eql 26 (.agg (ceA u s)) (.agg (ceA v t))).run Try.prog w = .ok (.bool (decide (u = v ∧ s = t))) w := by
  obtain ⟨r, hr, hiff⟩ := run_equalIn_deep (P := Try.prog) 9998 2 26 (by kernel_rfl) w 2 2 (.agg (ceA u s)) (.agg (ceA v t)) (litsE u s) (litsE v t) (by kernel_rfl) (by kernel_rfl) (cell_lits u s hs) (cell_lits v t ht)
  have e : r = decide (u = v ∧ s = t) := by
    rw [Bool.eq_iff_iff, hiff, litsE_iff, decide_eq_true_iff]
  rw [e] at hr
  have hr2 : (Op.equal 26 (.agg (ceA u s)) (.agg (ceA v t))).run Try.prog w = .ok (decide (u = v ∧ s = t)) w := hr
  simp [binOp, hr2]
theorem run_cell_neq (u v : Bool) (s t : ByteArray) (hs : s.size ≤ maxLen) (ht : t.size ≤ maxLen) (w : World) : (binOp .neq 26 (.agg (ceA u s)) (.agg (ceA v t))).run Try.prog w = .ok (.bool (!decide (u = v ∧ s = t))) w := by
  obtain ⟨r, hr, hiff⟩ := run_equalIn_deep (P := Try.prog) 9998 2 26 (by kernel_rfl) w 2 2 (.agg (ceA u s)) (.agg (ceA v t)) (litsE u s) (litsE v t) (by kernel_rfl) (by kernel_rfl) (cell_lits u s hs) (cell_lits v t ht)
  have e : r = decide (u = v ∧ s = t) := by
    rw [Bool.eq_iff_iff, hiff, litsE_iff, decide_eq_true_iff]
  rw [e] at hr
  have hr2 : (Op.equal 26 (.agg (ceA u s)) (.agg (ceA v t))).run Try.prog w = .ok (decide (u = v ∧ s = t)) w := hr
  simp [binOp, hr2]
theorem cell_guard (op : BinOp) (x y : Operand) (u v : Bool) (s t : ByteArray) (w : World) : (eqGuard op 26 x y (.agg (ceA u s)) (.agg (ceA v t))).run Try.prog w = .ok () w := run_eqGuard_agg (P := Try.prog) w op 26 x y (ceA u s) (ceA v t) (by kernel_rfl)
end Go.Proofs.Ytcehppekcbbaaab
