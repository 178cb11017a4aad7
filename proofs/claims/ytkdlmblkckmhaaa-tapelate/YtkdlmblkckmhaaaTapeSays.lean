/-
  What the code's Bytes leaves, with what the statements' walks ask behind it.
-/
import Derived.Test.YtkdlmblkckmhaaaTapeForm
namespace Go.Proofs.Ytkdlmblkckmhaaa
open Go.RowKit
set_option linter.unusedVariables false

/-- Behind Bytes: its text, both tapes as they were. -/
def Says (gr B : Nat) (TA : World → Tp → Prop) (t : Tp) (w0 : World) (e : Ending) (w5 : World) : Prop :=
  ∃ a5 c5, e = .returned (.slice a5 t.b.size c5) ∧ w5.cell? ⟨gr, 0, none⟩ = some (.string t.b) ∧ (convert 29 9 (.slice a5 t.b.size c5)).run Try.prog w5 = .ok (.string t.b) w5 ∧ TA w5 t ∧ RtAt w5 gr t ∧ Below B w0 w5
theorem says8 (gt gr B : Nat) (TA : World → Tp → Prop) (C : Cd gt gr B TA) (t : Tp) (w0 w : World) (ht : TA w t) (hr : RtAt w gr t) (ok : t.ok) (hb : Below B w0 w) :
    Calls Try.prog 14 #[.pointer (some ⟨gt, 0, none⟩)] w (Says gr B TA t w0) := by
  refine (C.bytes w t ht ok).mono ?_
  rintro e w5 ⟨v, rfl, ho, h5, h6, h7⟩
  obtain ⟨a5, c5, rfl, -, hB5⟩ := shape_isB ho
  have hs := run_toString (P := Try.prog) w5 29 9 5 Try.underlying29 Try.underlying5 Try.underlying9 a5 _ c5 _ hB5
  rw [mk_self] at hs
  exact ⟨a5, c5, rfl, (h6.rt hr).cell 0 (.string t.b) rfl, hs, h5, h6.rt hr, hb.trans h6.below⟩
end Go.Proofs.Ytkdlmblkckmhaaa
