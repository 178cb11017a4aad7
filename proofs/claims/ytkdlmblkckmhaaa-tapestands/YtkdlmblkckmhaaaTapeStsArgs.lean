/-
  Texts, in lists that come in, opened.
-/
import Derived.Test.YtkdlmblkckmhaaaRows
import Derived.Test.YtkdlmblkckmhaaaRowsArg
namespace Go.Proofs.Ytkdlmblkckmhaaa
open Go.ChangeShapes Go.WideShapes Go.ChangeAt Go.RowKit Go.Deep Go.Joins
set_option linter.unusedVariables false

set_option maxRecDepth 40000 in
def stA (s : ByteArray) : Array Value := #[.string s]
section
variable {H : Type} {enc : TypeId × Value → H} {W : World}

set_option maxRecDepth 40000 in
theorem elem_st (n : Nat) (cs : List Value) (y : DataW H × List MemPlace) (h : DataW.trod enc Try.prog W 0 (fun _ => true) true n 9 cs = some y) : ∃ s : ByteArray, cs = (stA s).toList ∧ s.size ≤ maxLen := by
  obtain ⟨s, g, _, w⟩ := DataW.trod_string Try.underlying9 h
  exact ⟨s, g, w⟩
set_option maxRecDepth 40000 in
/-- Texts. -/
theorem op_sts {v : Value} {d : DataW H} {p : List MemPlace} {r : Reach} {b0 : Nat} (hv : Value.okWide Try.prog W r b0 42 v) (h : DataW.Trod enc Try.prog W 0 (fun _ => true) true 42 v d p) :
    ∃ ss : List ByteArray, RowsIn stA ⟨#[]⟩ 1 W v ss ∧ ss.length ≤ maxLen ∧ (∀ s ∈ ss, s.size ≤ maxLen) ∧ ∀ a len cap, v = .slice a len cap → len ≤ cap := by
  obtain ⟨a, len, cap, _, rfl, _, hcap, _⟩ := @open_rows H enc Try.prog W ByteArray ⟨⟨#[]⟩⟩ 42 9 1 v d p r b0 (fun m k => (stA m).toList.getD k (.bool false)) (fun _ => True) (fun n cs y hy => by
    obtain ⟨m, rfl, _⟩ := elem_st n cs y hy
    refine ⟨m, trivial, fun k hk => ?_⟩
    rw [List.getD_eq_getElem?_getD, List.getElem?_eq_getElem (by rw [Array.length_toList]; exact hk)]
    rfl) Try.underlying42 (by kernel_rfl) (by decide) hv h
  obtain ⟨fuel, hf⟩ := h
  have hf2 : DataW.trod enc Try.prog W 0 (fun _ => true) true fuel 42 [.slice a len cap] = some (d, p) := hf
  obtain ⟨cs, h1, h2, h3⟩ := op_rows (sz := 1) stA ⟨#[]⟩ (fun s => s.size ≤ maxLen) elem_st Try.underlying42 (by kernel_rfl) (fun _ => rfl) (by decide) hf2
  refine ⟨cs, h1, h2, h3, fun a' l' c' e => ?_⟩
  injection e with e1 e2 e3
  omega
end

set_option maxRecDepth 40000 in
/-- A text of a list that lies there. -/
theorem sts_cell {w : World} {a : Option Addr} {cap : Nat} {ss : List ByteArray} (h : RowsIn stA ⟨#[]⟩ 1 w (.slice a ss.length cap) ss) (hp : 0 < ss.length) :
    ∃ b off, a = some ⟨b, off, none⟩ ∧ b < w.heap.size ∧ ∀ i, i < ss.length → w.cell? ⟨b, off + i, none⟩ = some (.string (ss.getD i ⟨#[]⟩)) := by
  obtain ⟨a', cap', e, h2⟩ := h
  injection e with e1 e2 e3
  subst e1
  obtain ⟨b, off, h3, h4, h5⟩ := h2 hp
  refine ⟨b, off, h3, h4, fun i hi => ?_⟩
  have := h5 i hi 0 _ rfl
  rw [Nat.mul_one, Nat.add_zero] at this
  exact this

end Go.Proofs.Ytkdlmblkckmhaaa
