/-
  A script of calls of a directory, that came in: how a call is loaded.
-/
import Derived.Test.YtpbdachbefafiaaOwArgs
import Derived.Test.YtpbdachbefafiaaPackMath
import Derived.Test.YtpbdachbefafiaaProg
import Derived.Deep.MidRow
namespace Go.Proofs.Ytpbdachbefafiaa
open Go.RowKit
set_option linter.unusedVariables false

theorem infoOd : (Try.prog.info? 30).map (·.size) = some 4 := by kernel_rfl
theorem load_od (y : World) (b k : Nat) (c : Od) (h : y.rangeAt b k (odA c).toList) : (Instr.loadAt 30 (.pointer (some ⟨b, k, none⟩))).run Try.prog y = .ok (.agg (odA c)) y := by
  have h1 := run_loadAt_mid (P := Try.prog) y b k 30 (odA c).toList _ h Try.underlying30 rfl (by rw [infoOd]; rfl)
  rwa [Array.toArray_toList] at h1
structure Scr14 (w0 : World) (v : Value) (cs : List Od) : Prop where
  rows : RowsIn odA Od.zero 4 w0 v cs
  fits : ∀ c ∈ cs, c.fits
  cap : ∀ a len cap, v = .slice a len cap → len ≤ cap
theorem Scr14.at {w0 x : World} {a : Option Addr} {len cap : Nat} {cs : List Od} (h : Scr14 w0 (.slice a len cap) cs) (p : Below w0.heap.size w0 x) {j : Nat} (hj : j < cs.length) : ∃ b off, a = some ⟨b, off, none⟩ ∧ b < w0.heap.size ∧ ∃ c, cs[j]? = some c ∧ (Instr.loadAt 30 (.pointer (some ⟨b, off + j * 4, none⟩))).run Try.prog x = .ok (.agg (odA c)) x ∧ x.cell? ⟨b, off + j * 4 + 1, none⟩ = some (.int .i64 c.p) ∧ c.fits := by
  obtain ⟨a', cap', e, h2⟩ := h.rows
  injection e with e1 e2 e3
  subst e1
  obtain ⟨b, off, h3, h4, h5⟩ := h2 (by omega)
  have hg : cs.getD j Od.zero = cs[j] := by rw [List.getD_eq_getElem?_getD, List.getElem?_eq_getElem hj]; rfl
  have h6 := rangeAt_below (h5 j hj) p h4
  rw [hg] at h6
  exact ⟨b, off, h3, h4, cs[j], List.getElem?_eq_getElem hj, load_od x b _ _ h6, h6 1 _ rfl, h.fits _ (List.getElem_mem hj)⟩
theorem Scr14.len {w0 : World} {a : Option Addr} {len cap : Nat} {cs : List Od} (h : Scr14 w0 (.slice a len cap) cs) : len = cs.length := by
  obtain ⟨a', cap', e, h2⟩ := h.rows
  injection e
end Go.Proofs.Ytpbdachbefafiaa
