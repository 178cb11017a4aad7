/-
  The calls of a script of a table of locks, and numbers, in lists that come in, opened.
-/
import Derived.Test.YtmlbghloddiflaaRows
import Derived.Test.YtmlbghloddiflaaRowsArg
import Derived.Test.YtmlbghloddiflaaPackMath
import Derived.Test.YtmlbghloddiflaaProg
import Derived.Deep.MidRow
namespace Go.Proofs.Ytmlbghloddiflaa
open Go.ChangeShapes Go.WideShapes Go.ChangeAt Go.RowKit Go.Deep Go.Joins
set_option linter.unusedVariables false

set_option maxRecDepth 40000 in
/-- A call of a script. -/
structure Lc where
  k : Int
  w : Int
  x : Int
  m : Int
set_option maxRecDepth 40000 in
def lcA (c : Lc) : Array Value := #[.int .i64 c.k, .int .i64 c.w, .int .i64 c.x, .int .i64 c.m]
set_option maxRecDepth 40000 in
def Lc.zero : Lc := ⟨0, 0, 0, 0⟩
set_option maxRecDepth 40000 in
def Lc.fits (c : Lc) : Prop := (Lit.int .i64 c.k).wf = true ∧ (Lit.int .i64 c.w).wf = true ∧ (Lit.int .i64 c.x).wf = true ∧ (Lit.int .i64 c.m).wf = true
section
variable {H : Type} {enc : TypeId × Value → H} {W : World}

set_option maxRecDepth 40000 in
theorem trod_st4' {P : Program} {t : TypeId} {f0 f1 f2 f3 : Field} {fuel : Nat} {cs : List Value} {x : DataW H × List MemPlace} (ht : P.underlying t = some (.struct #[f0, f1, f2, f3])) (h : DataW.trod enc P W 0 (fun _ => true) true fuel t cs = some x) :
    ∃ y0 y1 y2 y3 n, cs.length = P.cellsOf t ∧ DataW.trod enc P W 0 (fun _ => true) true n f0.type ((cs.drop f0.offset).take (P.cellsOf f0.type)) = some y0 ∧ DataW.trod enc P W 0 (fun _ => true) true n f1.type ((cs.drop f1.offset).take (P.cellsOf f1.type)) = some y1 ∧ DataW.trod enc P W 0 (fun _ => true) true n f2.type ((cs.drop f2.offset).take (P.cellsOf f2.type)) = some y2 ∧ DataW.trod enc P W 0 (fun _ => true) true n f3.type ((cs.drop f3.offset).take (P.cellsOf f3.type)) = some y3 := by
  obtain ⟨xs, n, _, rfl, hl, hlen, hf⟩ := DataW.trod_struct ht h
  match xs, hlen with
  | [y0, y1, y2, y3], _ => exact ⟨y0, y1, y2, y3, n, hl, by simpa using hf 0 f0 rfl, by simpa using hf 1 f1 rfl, by simpa using hf 2 f2 rfl, by simpa using hf 3 f3 rfl⟩
set_option maxRecDepth 40000 in
theorem elem_lc (n : Nat) (cs : List Value) (y : DataW H × List MemPlace) (h : DataW.trod enc Try.prog W 0 (fun _ => true) true n 38 cs = some y) : ∃ c : Lc, cs = (lcA c).toList ∧ c.fits := by
  obtain ⟨y0, y1, y2, y3, m, hl, h0, h1, h2, h3⟩ := trod_st4' Try.underlying38 h
  have hC : Try.prog.cellsOf 38 = 4 := by kernel_rfl
  rw [hC] at hl
  match cs, hl with
  | [c0, c1, c2, c3], _ =>
    have e0 : Try.prog.cellsOf 3 = 1 := by kernel_rfl
    simp only [e0, List.drop_zero, List.drop_succ_cons, List.take_succ_cons, List.take_zero] at h0 h1 h2 h3
    obtain ⟨i0, g0, _, w0⟩ := DataW.trod_int Try.underlying3 h0
    obtain ⟨i1, g1, _, w1⟩ := DataW.trod_int Try.underlying3 h1
    obtain ⟨i2, g2, _, w2⟩ := DataW.trod_int Try.underlying3 h2
    obtain ⟨i3, g3, _, w3⟩ := DataW.trod_int Try.underlying3 h3
    simp only [List.cons.injEq, and_true] at g0 g1 g2 g3
    subst g0 g1 g2 g3
    exact ⟨⟨i0, i1, i2, i3⟩, rfl, w0, w1, w2, w3⟩
set_option maxRecDepth 40000 in
/-- How long a list that comes in is, at most. -/
theorem op_cap13 {t e : TypeId} {fuel : Nat} {a : Option Addr} {len cap : Nat} {x : DataW H × List MemPlace} (ht : Try.prog.underlying t = some (.slice e)) (h : DataW.trod enc Try.prog W 0 (fun _ => true) true fuel t [.slice a len cap] = some x) : ∀ a' l' c', Value.slice a len cap = .slice a' l' c' → l' ≤ c' := by
  intro a' l' c' e'
  injection e' with e1 e2 e3
  subst e1 e2 e3
  rcases open_slice ht h with ⟨hcs, _⟩ | ⟨a, l, c, m, n, D, Pl, hcs, _, hl, hm, _⟩
  · simp only [List.cons.injEq, and_true, Value.slice.injEq] at hcs
    omega
  · simp only [List.cons.injEq, and_true, Value.slice.injEq] at hcs
    omega
set_option maxRecDepth 40000 in
/-- A script. -/
theorem op_lcs {v : Value} {d : DataW H} {p : List MemPlace} {r : Reach} {b0 : Nat} (hv : Value.okWide Try.prog W r b0 22 v) (h : DataW.Trod enc Try.prog W 0 (fun _ => true) true 22 v d p) :
    ∃ cs : List Lc, RowsIn lcA Lc.zero 4 W v cs ∧ cs.length ≤ maxLen ∧ (∀ c ∈ cs, c.fits) ∧ ∀ a len cap, v = .slice a len cap → len ≤ cap := by
  obtain ⟨fuel, hf⟩ := h
  obtain ⟨a, len, cap, rfl⟩ := okWide_slice Try.underlying22 hv
  have hf2 : DataW.trod enc Try.prog W 0 (fun _ => true) true fuel 22 [.slice a len cap] = some (d, p) := hf
  obtain ⟨cs, h1, h2, h3⟩ := op_rows (sz := 4) lcA Lc.zero Lc.fits elem_lc Try.underlying22 (by kernel_rfl) (fun _ => rfl) (by decide) hf2
  exact ⟨cs, h1, h2, h3, op_cap13 Try.underlying22 hf2⟩
set_option maxRecDepth 40000 in
/-- One call by value. -/
theorem op_lc {v : Value} {d : DataW H} {p : List MemPlace} {r : Reach} {b0 : Nat} (hv : Value.okWide Try.prog W r b0 38 v) (h : DataW.Trod enc Try.prog W 0 (fun _ => true) true 38 v d p) :
    ∃ c : Lc, v = .agg (lcA c) ∧ c.fits := by
  obtain ⟨cs, rfl, hsz⟩ := okWide_struct Try.underlying38 hv
  obtain ⟨fuel, hf⟩ := h
  obtain ⟨l⟩ := cs
  obtain ⟨c, hc, hft⟩ := elem_lc _ _ _ hf
  have hc2 : l = (lcA c).toList := hc
  subst hc2
  exact ⟨c, rfl, hft⟩
set_option maxRecDepth 40000 in
def i64A (x : Int) : Array Value := #[.int .i64 x]
set_option maxRecDepth 40000 in
theorem elem_i64 (n : Nat) (cs : List Value) (y : DataW H × List MemPlace) (h : DataW.trod enc Try.prog W 0 (fun _ => true) true n 3 cs = some y) : ∃ c : Int, cs = (i64A c).toList ∧ (Lit.int .i64 c).wf = true := by
  obtain ⟨i0, g0, _, w0⟩ := DataW.trod_int Try.underlying3 h
  exact ⟨i0, g0, w0⟩
set_option maxRecDepth 40000 in
/-- A list of numbers. -/
theorem op_ints13 {v : Value} {d : DataW H} {p : List MemPlace} {r : Reach} {b0 : Nat} (hv : Value.okWide Try.prog W r b0 50 v) (h : DataW.Trod enc Try.prog W 0 (fun _ => true) true 50 v d p) :
    ∃ cs : List Int, RowsIn i64A 0 1 W v cs ∧ cs.length ≤ maxLen ∧ (∀ c ∈ cs, (Lit.int .i64 c).wf = true) ∧ ∀ a len cap, v = .slice a len cap → len ≤ cap := by
  obtain ⟨fuel, hf⟩ := h
  obtain ⟨a, len, cap, rfl⟩ := okWide_slice Try.underlying50 hv
  have hf2 : DataW.trod enc Try.prog W 0 (fun _ => true) true fuel 50 [.slice a len cap] = some (d, p) := hf
  obtain ⟨cs, h1, h2, h3⟩ := op_rows (sz := 1) i64A 0 (fun c => (Lit.int .i64 c).wf = true) elem_i64 Try.underlying50 (by kernel_rfl) (fun _ => rfl) (by decide) hf2
  exact ⟨cs, h1, h2, h3, op_cap13 Try.underlying50 hf2⟩
end
end Go.Proofs.Ytmlbghloddiflaa
namespace Go.Proofs.Ytmlbghloddiflaa
open Go.RowKit
set_option linter.unusedVariables false

set_option maxRecDepth 40000 in
theorem infoLc : (Try.prog.info? 38).map (·.size) = some 4 := by kernel_rfl
set_option maxRecDepth 40000 in
theorem load_lc (y : World) (b k : Nat) (c : Lc) (h : y.rangeAt b k (lcA c).toList) : (Instr.loadAt 38 (.pointer (some ⟨b, k, none⟩))).run Try.prog y = .ok (.agg (lcA c)) y := by
  have h1 := run_loadAt_mid (P := Try.prog) y b k 38 (lcA c).toList _ h Try.underlying38 rfl (by rw [infoLc]; rfl)
  rwa [Array.toArray_toList] at h1
set_option maxRecDepth 40000 in
structure Scr13 (w0 : World) (v : Value) (cs : List Lc) : Prop where
  rows : RowsIn lcA Lc.zero 4 w0 v cs
  fits : ∀ c ∈ cs, c.fits
  cap : ∀ a len cap, v = .slice a len cap → len ≤ cap
set_option maxRecDepth 40000 in
theorem Scr13.at {w0 x : World} {a : Option Addr} {len cap : Nat} {cs : List Lc} (h : Scr13 w0 (.slice a len cap) cs) (p : Below w0.heap.size w0 x) {j : Nat} (hj : j < cs.length) : ∃ b off, a = some ⟨b, off, none⟩ ∧ b < w0.heap.size ∧ ∃ c, cs[j]? = some c ∧ (Instr.loadAt 38 (.pointer (some ⟨b, off + j * 4, none⟩))).run Try.prog x = .ok (.agg (lcA c)) x ∧ x.cell? ⟨b, off + j * 4 + 1, none⟩ = some (.int .i64 c.w) ∧ c.fits := by
  obtain ⟨a', cap', e, h2⟩ := h.rows
  injection e with e1 e2 e3
  subst e1
  obtain ⟨b, off, h3, h4, h5⟩ := h2 (by omega)
  have hg : cs.getD j Lc.zero = cs[j] := by rw [List.getD_eq_getElem?_getD, List.getElem?_eq_getElem hj]; rfl
  have h6 := rangeAt_below (h5 j hj) p h4
  rw [hg] at h6
  exact ⟨b, off, h3, h4, cs[j], List.getElem?_eq_getElem hj, load_lc x b _ _ h6, h6 1 _ rfl, h.fits _ (List.getElem_mem hj)⟩
set_option maxRecDepth 40000 in
theorem Scr13.len {w0 : World} {a : Option Addr} {len cap : Nat} {cs : List Lc} (h : Scr13 w0 (.slice a len cap) cs) : len = cs.length := by
  obtain ⟨a', cap', e, h2⟩ := h.rows
  injection e
end Go.Proofs.Ytmlbghloddiflaa
