/-
  The contract of quaysidelaw01.awake: it answers true, and turns nothing that was there.
-/
import Derived.Test.YtbmodhclhifckaaPackTake
import Derived.Test.YtbmodhclhifckaaPackPut
namespace Go.Proofs.Ytbmodhclhifckaa
open Go.RowKit
set_option linter.unusedVariables false

theorem beB_258 : ([] : List UInt8) ++ beB 2 258 = [1, 2] := by decide
theorem takeS_123 : takeS [1, 2, 3] 1 2 = (515, 0) := by decide

theorem isB_lit3 (w : World) : IsB (w.alloc (.cells #[.int .u8 1, .int .u8 2, .int .u8 3] 5)) (some ⟨w.heap.size, 0, none⟩) 3 [1, 2, 3] := by
  refine ⟨rfl, fun _ => ⟨w.heap.size, 0, rfl, by simp, fun j hj => ?_⟩⟩
  rw [Nat.zero_add]
  match j, hj with
  | 0, _ => simp
  | 1, _ => simp
  | 2, _ => simp

set_option maxHeartbeats 400000 in
theorem awake_any (w : World) : Calls Try.prog 9 #[] w fun e w' => e = .returned (.bool true) ∧ Below w.heap.size w w' := by
  go_enter Try.func9, Try.ntmps9
  go_wp2_with fail
  refine (put_ok none 0 0 2 258 [] w (IsB.nil w) (by omega) (by omega) (by omega) (by decide)).mono ?_
  rintro e w1 ⟨rfl, hown, hbel⟩
  rw [beB_258] at hown
  have c0 : w1.cell? ⟨w.heap.size, 0, none⟩ = some (.int .u8 1) := hown.cellAt 0 (by omega)
  have c1 : w1.cell? ⟨w.heap.size, 1, none⟩ = some (.int .u8 2) := hown.cellAt 1 (by omega)
  have hlt : w.heap.size < w1.heap.size := (hown.lt w.heap.size rfl).2
  clear hown
  go_wp2_with fail
  have T := take_any (some ⟨w1.heap.size, 0, none⟩) 3 3 [1, 2, 3] 1 2 (w1.alloc (.cells #[.int .u8 1, .int .u8 2, .int .u8 3] 5)) (isB_lit3 w1) (by omega) (by omega)
  rw [takeS_123] at T
  refine T.mono ?_
  rintro e w2 ⟨rfl, rfl⟩
  clear T
  have d0 : (w1.alloc (.cells #[.int .u8 1, .int .u8 2, .int .u8 3] 5)).cell? ⟨w.heap.size, 0, none⟩ = some (.int .u8 1) := ((((Below.refl w1.heap.size w1).alloc (Nat.le_refl _) _).cell (p := ⟨w.heap.size, 0, none⟩) hlt)).trans c0
  have d1 : (w1.alloc (.cells #[.int .u8 1, .int .u8 2, .int .u8 3] 5)).cell? ⟨w.heap.size, 1, none⟩ = some (.int .u8 2) := ((((Below.refl w1.heap.size w1).alloc (Nat.le_refl _) _).cell (p := ⟨w.heap.size, 1, none⟩) hlt)).trans c1
  go_wp2
  go_ret
  exact ⟨rfl, hbel.alloc hbel.size _⟩
end Go.Proofs.Ytbmodhclhifckaa
