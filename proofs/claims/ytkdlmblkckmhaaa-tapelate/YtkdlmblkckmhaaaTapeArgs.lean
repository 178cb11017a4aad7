/-
  The calls of a script, and texts, in lists that come in, opened.
-/
import Derived.Test.YtkdlmblkckmhaaaRows
import Derived.Test.YtkdlmblkckmhaaaRowsArg
namespace Go.Proofs.Ytkdlmblkckmhaaa
open Go.ChangeShapes Go.WideShapes Go.ChangeAt Go.RowKit Go.Deep Go.Joins
set_option linter.unusedVariables false

set_option maxRecDepth 40000 in
/-- A call of a script. -/
structure Tc where
  k : Int
  n : Int
  b : ByteArray
set_option maxRecDepth 40000 in
def tcA (c : Tc) : Array Value := #[.int .i64 c.k, .int .i64 c.n, .string c.b]
set_option maxRecDepth 40000 in
def Tc.zero : Tc := ⟨0, 0, ⟨#[]⟩⟩
set_option maxRecDepth 40000 in
def Tc.fits (c : Tc) : Prop := (Lit.int .i64 c.k).wf = true ∧ (Lit.int .i64 c.n).wf = true ∧ c.b.size ≤ maxLen
section
variable {H : Type} {enc : TypeId × Value → H} {W : World}

set_option maxRecDepth 40000 in
theorem elem_tc (n : Nat) (cs : List Value) (y : DataW H × List MemPlace) (h : DataW.trod enc Try.prog W 0 (fun _ => true) true n 35 cs = some y) : ∃ c : Tc, cs = (tcA c).toList ∧ c.fits := by
  obtain ⟨y0, y1, y2, m, hl, h0, h1, h2⟩ := trod_st3 Try.underlying35 h
  have hC : Try.prog.cellsOf 35 = 3 := by kernel_rfl
  rw [hC] at hl
  match cs, hl with
  | [c0, c1, c2], _ =>
    have e0 : Try.prog.cellsOf 3 = 1 := by kernel_rfl
    have e1 : Try.prog.cellsOf 9 = 1 := by kernel_rfl
    simp only [e0, e1, List.drop_zero, List.drop_succ_cons, List.take_succ_cons, List.take_zero] at h0 h1 h2
    obtain ⟨i0, g0, _, w0⟩ := DataW.trod_int Try.underlying3 h0
    obtain ⟨i1, g1, _, w1⟩ := DataW.trod_int Try.underlying3 h1
    obtain ⟨i2, g2, _, w2⟩ := DataW.trod_string Try.underlying9 h2
    simp only [List.cons.injEq, and_true] at g0 g1 g2
    subst g0 g1 g2
    exact ⟨⟨i0, i1, i2⟩, rfl, w0, w1, w2⟩
set_option maxRecDepth 40000 in
/-- A script. -/
theorem op_tcs {v : Value} {d : DataW H} {p : List MemPlace} {r : Reach} {b0 : Nat} (hv : Value.okWide Try.prog W r b0 22 v) (h : DataW.Trod enc Try.prog W 0 (fun _ => true) true 22 v d p) :
    ∃ cs : List Tc, RowsIn tcA Tc.zero 3 W v cs ∧ cs.length ≤ maxLen ∧ (∀ c ∈ cs, c.fits) ∧ ∀ a len cap, v = .slice a len cap → len ≤ cap := by
  obtain ⟨a, len, cap, _, rfl, _, hcap, _⟩ := @open_rows H enc Try.prog W Tc ⟨Tc.zero⟩ 22 35 3 v d p r b0 (fun m k => (tcA m).toList.getD k (.bool false)) (fun _ => True) (fun n cs y hy => by
    obtain ⟨m, rfl, _⟩ := elem_tc n cs y hy
    refine ⟨m, trivial, fun k hk => ?_⟩
    rw [List.getD_eq_getElem?_getD, List.getElem?_eq_getElem (by rw [Array.length_toList]; exact hk)]
    rfl) Try.underlying22 (by kernel_rfl) (by decide) hv h
  obtain ⟨fuel, hf⟩ := h
  have hf2 : DataW.trod enc Try.prog W 0 (fun _ => true) true fuel 22 [.slice a len cap] = some (d, p) := hf
  obtain ⟨cs, h1, h2, h3⟩ := op_rows (sz := 3) tcA Tc.zero Tc.fits elem_tc Try.underlying22 (by kernel_rfl) (fun _ => rfl) (by decide) hf2
  refine ⟨cs, h1, h2, h3, fun a' l' c' e => ?_⟩
  injection e with e1 e2 e3
  omega
set_option maxRecDepth 40000 in
/-- One call by value. -/
theorem op_tc {v : Value} {d : DataW H} {p : List MemPlace} {r : Reach} {b0 : Nat} (hv : Value.okWide Try.prog W r b0 35 v) (h : DataW.Trod enc Try.prog W 0 (fun _ => true) true 35 v d p) :
    ∃ c : Tc, v = .agg (tcA c) ∧ c.fits := by
  obtain ⟨cs, rfl, hsz⟩ := okWide_struct Try.underlying35 hv
  obtain ⟨fuel, hf⟩ := h
  obtain ⟨l⟩ := cs
  obtain ⟨c, hc, hft⟩ := elem_tc _ _ _ hf
  have hc2 : l = (tcA c).toList := hc
  subst hc2
  exact ⟨c, rfl, hft⟩
end
end Go.Proofs.Ytkdlmblkckmhaaa
