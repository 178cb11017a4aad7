/-
  The code's pool and the document's side by side.
-/
import Derived.Test.YthigibgokbmehaaPoolKept
import Derived.Test.YthigibgokbmehaaPoolRefNew
import Derived.Test.YthigibgokbmehaaPoolRefVic
namespace Go.Proofs.Ythigibgokbmehaa
open Go.RowKit
set_option linter.unusedVariables false

structure D11 (w0 x : World) (g gr k kr : Nat) (p : Po) (b : Nat) : Prop where
  l : K11 w0 x g gr p b
  r : PD x k kr p
  off : ∀ c, FP g gr c → ¬ FP k kr c
  lo : w0.heap.size ≤ k ∧ w0.heap.size ≤ kr
section
variable {w0 x y z : World} {g gr k kr b c : Nat} {p q : Po}
theorem D11.code (h : D11 w0 x g gr k kr p b) (h1 : Tn (FP g gr) x y) : PD y k kr p := h.r.turn h1 (fun e => h.off _ e (.inl rfl)) (fun e => h.off _ e (.inr rfl))
theorem D11.doc (h : D11 w0 x g gr k kr p b) (h1 : K11 w0 y g gr q c) (h2 : Tn (FP k kr) y z) : K11 w0 z g gr q c := h1.turn h2 (fun e => h.off _ (.inl rfl) e) (fun e => h.off _ (.inr rfl) e) (fun m hm => by
  rcases hm with rfl | rfl
  · exact h.lo.1
  · exact h.lo.2)
theorem D11.later (h : D11 w0 x g gr k kr p b) (q : Below x.heap.size x y) : D11 w0 y g gr k kr p b := ⟨h.l.later q, h.r.later q, h.off, h.lo⟩
theorem D11.mono (h : D11 w0 x g gr k kr p b) (hc : b ≤ c) : D11 w0 x g gr k kr p c := ⟨h.l.mono hc, h.r, h.off, h.lo⟩
end
end Go.Proofs.Ythigibgokbmehaa
