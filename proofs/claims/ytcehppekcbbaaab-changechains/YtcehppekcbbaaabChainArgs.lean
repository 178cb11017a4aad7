/-
  The argument of ChangeChains, opened.
-/
import Derived.Test.YtcehppekcbbaaabRows
import Derived.Test.YtcehppekcbbaaabOpeners
import Derived.Test.YtcehppekcbbaaabArgRows
namespace Go.Proofs.Ytcehppekcbbaaab
open Go.ChangeShapes Go.WideShapes Go.ChangeAt Go.RowKit Go.Deep Go.Joins
set_option linter.unusedVariables false

/-- What a cell is made of. -/
def makeV (x : Int × Bool × ByteArray) (c : Nat) : Value := if c = 0 then .int .i64 x.1 else if c = 1 then .bool x.2.1 else .string x.2.2

section
variable {H : Type} {enc : TypeId × Value → H} {W : World}

theorem elem_make (n : Nat) (cs : List Value) (y : DataW H × List MemPlace) (h : DataW.trod enc Try.prog W 0 (fun _ => true) true n 32 cs = some y) :
    ∃ x : Int × Bool × ByteArray, True ∧ ∀ k, k < 3 → cs[k]? = some (makeV x k) := by
  obtain ⟨y0, y1, y2, m, _, hl, h0, h1, h2⟩ := trod_struct3 Try.underlying32 h
  have hC : Try.prog.cellsOf 32 = 3 := by kernel_rfl
  rw [hC] at hl
  match cs, hl with
  | [c0, c1, c2], _ =>
    have e0 : Try.prog.cellsOf 3 = 1 := by kernel_rfl
    have e1 : Try.prog.cellsOf 4 = 1 := by kernel_rfl
    have e2 : Try.prog.cellsOf 9 = 1 := by kernel_rfl
    simp only [e0, e1, e2, List.drop_zero, List.drop_succ_cons, List.take_succ_cons, List.take_zero] at h0 h1 h2
    obtain ⟨i, hi, _, _⟩ := DataW.trod_int Try.underlying3 h0
    obtain ⟨b, hb, _⟩ := DataW.trod_bool Try.underlying4 h1
    obtain ⟨s, hs, _, _⟩ := DataW.trod_string Try.underlying9 h2
    simp only [List.cons.injEq, and_true] at hi hb hs
    subst hi hb hs
    refine ⟨(i, b, s), trivial, fun k hk => ?_⟩
    match k, hk with
    | 0, _ => rfl
    | 1, _ => rfl
    | 2, _ => rfl

theorem op_makes {v : Value} {d : DataW H} {p : List MemPlace} {r : Reach} {b0 : Nat} (hv : Value.okWide Try.prog W r b0 22 v) (h : DataW.Trod enc Try.prog W 0 (fun _ => true) true 22 v d p)
    (hs : ∀ n ∈ d.weights Try.prog 22, n ≤ reachBytes) : ∃ m : Option Addr × Nat × Nat × (Nat → Int) × (Nat → Bool) × (Nat → ByteArray), v = .slice m.1 m.2.1 m.2.2.1 ∧ m.2.1 ≤ 140737488355328 ∧
      IsRow W m.1 m.2.1 3 (fun i c => if c = 0 then .int .i64 (m.2.2.2.1 i) else if c = 1 then .bool (m.2.2.2.2.1 i) else .string (m.2.2.2.2.2 i)) := by
  obtain ⟨a, len, cap, f, rfl, fm, _, _, hG, hr⟩ := open_rows_all makeV (fun _ => True) trivial elem_make Try.underlying22 (by kernel_rfl) (by decide) hv h
  have z := fm.sized Try.underlying22 (of_decide_eq_true (by kernel_rfl)) hs
  exact ⟨(a, len, cap, fun i => (f i).1, fun i => (f i).2.1, fun i => (f i).2.2), rfl, by show len ≤ _; omega, hr⟩
end
end Go.Proofs.Ytcehppekcbbaaab
