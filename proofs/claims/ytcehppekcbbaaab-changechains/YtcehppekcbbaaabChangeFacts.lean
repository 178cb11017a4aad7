/-
  More plain facts on changes.
-/
import Derived.Test.YtcehppekcbbaaabChangeEq
import Derived.Test.YtcehppekcbbaaabChangeKept
namespace Go.Proofs.Ytcehppekcbbaaab
open Go.RowKit
set_option linter.unusedVariables false

theorem zero_fits : Ch.zero.fits := ⟨by decide, by decide, by decide, by show (0 : Nat) ≤ maxLen; omega, by show (0 : Nat) ≤ maxLen; omega⟩
theorem wf_small (k : Int) (h : -100 ≤ k ∧ k ≤ 100) : (Lit.int .i64 k).wf = true := by
  have m1 : IntKind.i64.min = -9223372036854775808 := by decide
  have m2 : IntKind.i64.max = 9223372036854775807 := by decide
  simp only [Lit.wf, m1, m2, Bool.and_eq_true, decide_eq_true_eq]
  omega
theorem inv_fits (c : Ch) (h : c.fits) : (invC c).fits := by
  unfold invC
  split
  · rename_i hr
    refine ⟨wf_small _ ?_, h.2.1, h.2.2.1, h.2.2.2.2, h.2.2.2.1⟩
    show -100 ≤ 4 - c.k ∧ 4 - c.k ≤ 100
    rcases hr.2 with h | h | h <;> omega
  · exact zero_fits
theorem inv_of (c : Ch) (h : c.right) : invC c = ⟨4 - c.k, c.pg, c.sl, c.n, c.o⟩ := by unfold invC; rw [if_pos h]
theorem inv_inv (c : Ch) (h : c.right) : invC (invC c) = c ∧ invE (invC c) = 0 := by
  have h2 := (inv_right c h).1
  refine ⟨?_, by unfold invE; rw [if_pos h2]⟩
  rw [inv_of _ h2, inv_of c h]
  show (⟨4 - (4 - c.k), c.pg, c.sl, c.o, c.n⟩ : Ch) = c
  rw [show 4 - (4 - c.k) = c.k by omega]
end Go.Proofs.Ytcehppekcbbaaab
