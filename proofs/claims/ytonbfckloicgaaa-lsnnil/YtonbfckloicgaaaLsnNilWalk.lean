/-
  The walk of LsnNil: it returns true, and turns nothing that was there.
-/
import Derived.Test.YtonbfckloicgaaaLsnAwake
namespace Go.Proofs.Ytonbfckloicgaaa.lsnNil
open Go.RowKit
set_option linter.unusedVariables false

set_option maxHeartbeats 400000 in
theorem walk (k n : Int) (s : Bool) (w : World) :
    Calls Try.prog 8 #[.agg #[.int .i64 k, .int .u64 n, .bool s]] w fun e w' => e = .returned (.bool true) ∧ Below w.heap.size w w' := by
  go_enter Try.func8, Try.ntmps8
  go_wp2_with fail
  refine (awake_any _).mono ?_
  rintro e w1 ⟨rfl, hb1⟩
  have c0 : Below w.heap.size w (w.alloc (.cells #[.int .i64 k, .int .u64 n, .bool s] 34)) := (Below.refl _ _).alloc (Nat.le_refl _) _
  have c1 := c0.trans (hb1.mono (by simp))
  have h1 : w1.cell? ⟨w.heap.size, 1, none⟩ = some (.int .u64 n) := (hb1.cell (p := ⟨w.heap.size, 1, none⟩) (by simp)).trans (by simp)
  have h2 : w1.cell? ⟨w.heap.size, 2, none⟩ = some (.bool s) := (hb1.cell (p := ⟨w.heap.size, 2, none⟩) (by simp)).trans (by simp)
  clear hb1 c0
  go_wp2_with fail
  refine (see_nil n _).mono ?_
  rintro e w2 ⟨rfl, rfl⟩
  go_wp2_with fail
  refine (next_nil n s _).mono ?_
  rintro e w2 ⟨rfl, rfl⟩
  go_wp2_with fail
  refine (last_nil _).mono ?_
  rintro e w2 ⟨rfl, rfl⟩
  go_wp2
  go_ret
  exact ⟨rfl, c1⟩
end Go.Proofs.Ytonbfckloicgaaa.lsnNil
