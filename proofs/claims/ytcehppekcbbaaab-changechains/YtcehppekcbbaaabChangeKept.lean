/-
  A page and a change that came in, kept while a statement goes on.
-/
import Derived.Test.YtcehppekcbbaaabChangeMem
import Derived.Test.YtcehppekcbbaaabPageKept
namespace Go.Proofs.Ytcehppekcbbaaab
open Go.RowKit
set_option linter.unusedVariables false

def PC (w : World) (gc : Nat) (p : Pg) (c : Ch) (x : World) : Prop := PgAt x w.heap.size p ∧ RowAt x gc 34 (chA c) ∧ Below w.heap.size w x ∧ w.heap.size < gc
theorem PC.later {w x y : World} {gc : Nat} {p : Pg} {c : Ch} (h : PC w gc p c x) (hb : Below x.heap.size x y) : PC w gc p c y :=
  ⟨h.1.below hb h.1.lt, h.2.1.later hb, h.2.2.1.trans (hb.mono (Nat.le_of_lt h.1.lt)), h.2.2.2⟩
theorem PC.drew {w x : World} {gc : Nat} {p : Pg} {c : Ch} (h : PC w gc p c x) : PC w gc p c x.drew := ⟨h.1, h.2.1, below_dn h.2.2.1 1, h.2.2.2⟩
theorem PC.new (w : World) (p : Pg) (c : Ch) : PC w (w.heap.size + 1) p c ((w.alloc (.cells (pgA p) 29)).alloc (.cells (chA c) 34)) := by
  have e1 : (w.alloc (.cells (pgA p) 29)).heap.size = w.heap.size + 1 := by simp
  have b1 := (Below.refl w.heap.size w).alloc (Nat.le_refl _) (.cells (pgA p) 29)
  have b2 := (Below.refl _ (w.alloc (.cells (pgA p) 29))).alloc (Nat.le_refl _) (.cells (chA c) 34)
  refine ⟨(RowAt.new w 29 (pgA p)).later b2, ?_, b1.trans (b2.mono b1.size), by omega⟩
  have h := RowAt.new (w.alloc (.cells (pgA p) 29)) 34 (chA c)
  rw [e1] at h
  exact h

theorem load_change {b : Nat} {c : Ch} (x : World) (h : RowAt x b 34 (chA c)) : (Instr.loadAt 34 (.pointer (some ⟨b, 0, none⟩))).run Try.prog x = .ok (.agg (chA c)) x := by
  have h1 := run_loadVar_row (P := Try.prog) x b 34 34 (chA c) (0, 0) _ h Try.underlying34 rfl infoCh
  simp only [Instr.loadAt, Instr.sureAddr, Sem.run_bind, Sem.run_pure, Result.andThen_ok, h1]

/-- A page behind a change fits a machine. -/
theorem app_fits (p : Pg) (c : Ch) (l : Nat) (hp : p.fits) (hl : l < 18446744073709551616) : (appP p c l).fits := by
  unfold appP
  split
  · rename_i h
    obtain ⟨h1, h2, h3, _, _, _⟩ := (app_yes p c l).1 h
    exact (put_right p c l h1 h2 h3).fits
  · exact ⟨by decide, fun i _ => by show (0 : Nat) ≤ maxLen; omega⟩
end Go.Proofs.Ytcehppekcbbaaab
