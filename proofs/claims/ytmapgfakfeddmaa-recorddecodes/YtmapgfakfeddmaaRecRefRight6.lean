/-
  The contract of quaysideref06.Right, whole.
-/
import Derived.Test.YtmapgfakfeddmaaRecRefRightA
import Derived.Test.YtmapgfakfeddmaaRecRefRightB
import Derived.Test.YtmapgfakfeddmaaRecRefRightC
namespace Go.Proofs.Ytmapgfakfeddmaa
open Go.RowKit
set_option linter.unusedVariables false

set_option maxRecDepth 8000 in
set_option maxHeartbeats 1600000 in
theorem rright6_no (r : Rec) (va vb : Value) (w : World) (hk : r.k < 1 ∨ 8 < r.k) :
    Calls Try.prog 14 #[.agg (rcA r va vb)] w fun e w' => e = .returned (.bool false) ∧ Below w.heap.size w w' := by
  have HK0 := hide (Keeps.one w 28 (rcA r va vb))
  obtain ⟨c0, -⟩ := rc_cells HK0.out.1.1
  have hb0 := HK0.out.2
  clear HK0
  generalize r.k = k at *
  by_cases h1 : k < 1
  · clear hk
    go_enter Try.func14, Try.ntmps14
    go_wp2
    go_ret
    exact ⟨rfl, hb0⟩
  · have h8 : 8 < k := by omega
    clear hk
    go_enter Try.func14, Try.ntmps14
    go_wp2
    go_ret
    exact ⟨rfl, hb0⟩

/-- THE CONTRACT. -/
theorem rright6_any (r : Rec) (va vb : Value) (w : World) (hf : r.c.fits) (hin : RcIn w r va vb) :
    Calls Try.prog 14 #[.agg (rcA r va vb)] w fun e w' => e = .returned (.bool r.rightB) ∧ Below w.heap.size w w' := by
  by_cases hk : r.k < 1 ∨ 8 < r.k
  · rw [rightB_no (fun h => by have := h.k1; have := h.k8; omega)]
    exact rright6_no r va vb w hk
  · have hq : Hid (r.rightB = true ↔ r.right) := rightB_iff
    by_cases h1 : r.k = 1
    · exact rright6_1 r va vb w _ hq h1 hf hin
    by_cases h2 : r.k = 2
    · exact rright6_2 r va vb w _ hq h2 hf hin
    by_cases h5 : r.k ≤ 5
    · exact rright6_345 r va vb w _ hq (by omega) h5 hf hin
    by_cases h6 : r.k = 6
    · exact rright6_6 r va vb w _ hq h6 hf hin
    by_cases h7 : r.k = 7
    · exact rright6_7 r va vb w _ hq h7 hf hin
    exact rright6_8 r va vb w _ hq (by omega) hf hin
end Go.Proofs.Ytmapgfakfeddmaa
