/-
  A script of calls of a pool, that came in: how a call is loaded.
-/
import Derived.Test.YthigibgokbmehaaPoolArgs
import Derived.Test.YthigibgokbmehaaPackMath
import Derived.Test.YthigibgokbmehaaProg
import Derived.Deep.MidRow
namespace Go.Proofs.Ythigibgokbmehaa
open Go.RowKit
set_option linter.unusedVariables false

theorem infoPc : (Try.prog.info? 30).map (·.size) = some 4 := by kernel_rfl
theorem load_pc (y : World) (b k : Nat) (c : Pc) (h : y.rangeAt b k (pcA c).toList) : (Instr.loadAt 30 (.pointer (some ⟨b, k, none⟩))).run Try.prog y = .ok (.agg (pcA c)) y := by
  have h1 := run_loadAt_mid (P := Try.prog) y b k 30 (pcA c).toList _ h Try.underlying30 rfl (by rw [infoPc]; rfl)
  rwa [Array.toArray_toList] at h1
/-- A value that is loaded, by what the load answers. -/
theorem wpList_load_run11 {P : Program} {ops : Array Oper} {rest : List Oper} {o : Oper} {a : Act} {w : World} {Q : Exit → Act → World → Prop} (hw : Region.wanted o (yielded ops a.tmps) = true) (t : TypeId) (x : Operand) (ho : o.op = .load t x) (u v : Value) (hu : a.eval x = u) (hv : (Instr.loadAt t u).run P w = .ok v w) (h : wpList P ops Q rest (a.put o.dst v) w) : wpList P ops Q (o :: rest) a w :=
  wpList_val hw v (by unfold execOp; simp only [ho, hu, Sem.run_bind, hv, Result.andThen_ok, Sem.run_pure]) h
structure Scr11 (w0 : World) (v : Value) (cs : List Pc) : Prop where
  rows : RowsIn pcA Pc.zero 4 w0 v cs
  fits : ∀ c ∈ cs, c.fits
  cap : ∀ a len cap, v = .slice a len cap → len ≤ cap
theorem Scr11.at {w0 x : World} {a : Option Addr} {len cap : Nat} {cs : List Pc} (h : Scr11 w0 (.slice a len cap) cs) (p : Below w0.heap.size w0 x) {j : Nat} (hj : j < cs.length) : ∃ b off, a = some ⟨b, off, none⟩ ∧ b < w0.heap.size ∧ (∃ k i s n, cs.getD j Pc.zero = ⟨k, i, s, n⟩ ∧ (Instr.loadAt 30 (.pointer (some ⟨b, off + j * 4, none⟩))).run Try.prog x = .ok (.agg #[.int .i64 k, .int .i64 i, .string s, .int .u64 n]) x ∧ x.cell? ⟨b, off + j * 4, none⟩ = some (.int .i64 k) ∧ x.cell? ⟨b, off + j * 4 + 1, none⟩ = some (.int .i64 i) ∧ s.size ≤ maxLen ∧ (Lit.int .u64 n).wf = true ∧ (Lit.int .i64 i).wf = true) := by
  obtain ⟨a', cap', e, h2⟩ := h.rows
  injection e with e1 e2 e3
  subst e1
  obtain ⟨b, off, h3, h4, h5⟩ := h2 (by omega)
  have hm : cs.getD j Pc.zero ∈ cs := by
    rw [List.getD_eq_getElem?_getD, List.getElem?_eq_getElem hj]
    exact List.getElem_mem hj
  obtain ⟨⟨k, i, s, n⟩, hc⟩ : ∃ c, cs.getD j Pc.zero = c := ⟨_, rfl⟩
  have h6 := rangeAt_below (h5 j hj) p h4
  have h7 := h.fits _ hm
  rw [hc] at h6 h7
  exact ⟨b, off, h3, h4, k, i, s, n, hc, load_pc x b _ _ h6, h6 0 _ rfl, h6 1 _ rfl, h7.2.2.1, h7.2.2.2, h7.2.1⟩
theorem Scr11.len {w0 : World} {a : Option Addr} {len cap : Nat} {cs : List Pc} (h : Scr11 w0 (.slice a len cap) cs) : len = cs.length := by
  obtain ⟨a', cap', e, h2⟩ := h.rows
  injection e
end Go.Proofs.Ythigibgokbmehaa
