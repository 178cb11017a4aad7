/-
  Texts that lean on one another, one behind the other: each opens with its own remark.
-/
import Derived.Test.YtohdmmfmjadipabK06
import Derived.Test.YtohdmmfmjadipabK03
import Derived.Test.YtohdmmfmjadipabK10

namespace Go.Proofs.Ytohdmmfmjadipab
open Go.RowKit
set_option linter.unusedVariables false
set_option maxRecDepth 8000
set_option maxHeartbeats 25600000
section
open Go.ChangeShapes Go.WideShapes Go.ChangeAt Go.RowKit Go.Deep Go.Joins
section
variable {H : Type} {enc : TypeId × Value -> H} {W : World}
set_option maxRecDepth 40000 in
theorem Qmp {v : Value} {d : DataW H} {p : List MemPlace} {r : Reach} {b0 : Nat} (hv : Value.okWide Try.prog W r b0 26 v) (h : DataW.Trod enc Try.prog W 0 (fun _ => true) true 26 v d p) : ∃ a len cap, v = .slice a len cap /\ Qri d len cap /\ len <= cap /\ (a = none -> cap = 0) := by
  obtain ⟨a, len, cap, f, h1, h2, h3, h4, _, _⟩ := @Qlp H enc Try.prog W (Rec × Value × Value) ⟨rcZ⟩ 26 59 14 v d p r b0 (fun m k => (rcF m).toList.getD k (.bool false)) (fun _ => True) (fun n cs y hy => by
    obtain ⟨m, rfl, _⟩ := Qvr n cs y hy; refine ⟨m, trivial, fun k hk => ?_⟩; rw [List.getD_eq_getElem?_getD, List.getElem?_eq_getElem (by rw [Array.length_toList]; exact hk)]
    rfl) Try.underlying26 (by kernel_rfl) (by decide) hv h
  exact ⟨a, len, cap, h1, h2, h3, h4⟩
set_option maxRecDepth 40000 in
theorem op_recs_arg {v : Value} {d : DataW H} {p : List MemPlace} {r : Reach} {b0 : Nat} (hv : Value.okWide Try.prog W r b0 26 v) (h : DataW.Trod enc Try.prog W 0 (fun _ => true) true 26 v d p) :
    ∃ ms : List (Rec × Value × Value), Qil W v ms /\ ms.length <= maxLen /\ ∀ a len cap, v = .slice a len cap -> len <= cap := by
  obtain ⟨a, len, cap, rfl, _, hc, _⟩ := Qmp hv h; obtain ⟨fuel, hf⟩ := h; have hf2 : DataW.trod enc Try.prog W 0 (fun _ => true) true fuel 26 [.slice a len cap] = some (d, p) := hf; obtain ⟨ms, h1, h2, h3⟩ := op_recs Try.underlying26 hf2; refine ⟨ms, ⟨h1, h3⟩, h2, fun a' l' c' e => ?_⟩; injection e with e1 e2 e3; omega
set_option maxRecDepth 40000 in
theorem op_recs_few {v : Value} {d : DataW H} {p : List MemPlace} {r : Reach} {b0 N : Nat} (hv : Value.okWide Try.prog W r b0 26 v) (h : DataW.Trod enc Try.prog W 0 (fun _ => true) true 26 v d p) (hs : ∀ len cap, Qri d len cap -> len <= N) :
    ∃ ms : List (Rec × Value × Value), Qil W v ms /\ ms.length <= N /\ ∀ a len cap, v = .slice a len cap -> len <= cap /\ (a = none -> cap = 0) := by
  obtain ⟨a, len, cap, rfl, hsl, hc, hnl⟩ := Qmp hv h; obtain ⟨fuel, hf⟩ := h; have hf2 : DataW.trod enc Try.prog W 0 (fun _ => true) true fuel 26 [.slice a len cap] = some (d, p) := hf; obtain ⟨ms, h1, h2, h3⟩ := op_recs Try.underlying26 hf2
  have hl : ms.length = len := by
    obtain ⟨a', c', e, _⟩ := h1; injection e with e1 e2 e3; exact e2.symm
  refine ⟨ms, ⟨h1, h3⟩, by rw [hl]; exact hs _ _ hsl, fun a' l' c' e => ?_⟩; injection e with e1 e2 e3; subst e1 e2 e3; exact ⟨hc, hnl⟩
end
end
end Go.Proofs.Ytohdmmfmjadipab
