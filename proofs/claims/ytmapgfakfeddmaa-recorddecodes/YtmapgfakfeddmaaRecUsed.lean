/-
  The contract of record.used.
-/
import Derived.Test.YtmapgfakfeddmaaRecUsedA
import Derived.Test.YtmapgfakfeddmaaRecUsedB
import Derived.Test.YtmapgfakfeddmaaRecUsedC
import Derived.Test.YtmapgfakfeddmaaRecUsedD
import Derived.Test.YtmapgfakfeddmaaRecUsedE
namespace Go.Proofs.Ytmapgfakfeddmaa
open Go.RowKit
set_option linter.unusedVariables false

theorem uV_in {w : World} {r : Rec} {va vb : Value} (h : RcIn w r va vb) : RcIn w r.used (uV r va) (uV r vb) := by
  by_cases hk : r.k = 8
  · have e1 : r.used.ts = r.ts := by unfold Rec.used; simp [hk]
    have e2 : r.used.ds = r.ds := by unfold Rec.used; simp [hk]
    have e3 : ∀ v, uV r v = v := fun v => by unfold uV; rw [if_pos hk]
    unfold RcIn at h ⊢
    rw [e1, e2, e3, e3]
    exact h
  · have e1 : r.used.ts = [] := by unfold Rec.used; simp [hk]
    have e2 : r.used.ds = [] := by unfold Rec.used; simp [hk]
    have e3 : ∀ v, uV r v = .slice none 0 0 := fun v => by unfold uV; rw [if_neg hk]
    unfold RcIn
    rw [e1, e2, e3, e3]
    exact ⟨⟨none, 0, rfl, fun h => absurd h (by simp)⟩, ⟨none, 0, rfl, fun h => absurd h (by simp)⟩⟩

/-- THE CONTRACT. -/
theorem used_any (r : Rec) (va vb : Value) (w : World) (hk : 1 ≤ r.k ∧ r.k ≤ 8) (hin : RcIn w r va vb) :
    Calls Try.prog 25 #[.agg (rcA r va vb)] w fun e w' => e = .returned (.agg (rcA r.used (uV r va) (uV r vb))) ∧ Below w.heap.size w w' := by
  by_cases h1 : r.k = 1
  · exact used_1 r va vb w h1 hin
  by_cases h2 : r.k = 2
  · exact used_2 r va vb w h2 hin
  by_cases h3 : r.k = 3
  · exact used_3 r va vb w h3 hin
  by_cases h4 : r.k = 4
  · exact used_4 r va vb w h4 hin
  by_cases h5 : r.k = 5
  · exact used_5 r va vb w h5 hin
  by_cases h6 : r.k = 6
  · exact used_6 r va vb w h6 hin
  by_cases h7 : r.k = 7
  · exact used_7 r va vb w h7 hin
  exact used_8 r va vb w (by omega) hin
end Go.Proofs.Ytmapgfakfeddmaa
