/-
  The contract of quaysidelaw02.awake: it answers true, and turns nothing that was there.
-/
import Derived.Test.YtdcnfkndjjgobaaSumCode
import Derived.Lib.SlBytesConst
namespace Go.Proofs.Ytdcnfkndjjgobaa
open Go.RowKit
set_option linter.unusedVariables false

theorem crc_123 : crc [49, 50, 51, 52, 53, 54, 55, 56, 57] = 3421780262 := by decide +kernel

set_option maxHeartbeats 400000 in
theorem awake_any (w : World) : Calls Try.prog 9 #[] w fun e w' => e = .returned (.bool true) ∧ Below w.heap.size w w' := by
  have kc := fun (w : World) (C : Array Value) (n c : Nat) => Lib.run_convert_bytes_const (P := Try.prog) w 25 5 C n c Try.underlying25 Try.underlying5
  go_enter Try.func9, Try.ntmps9
  go_wp2_with fail
  have T := of_any (some ⟨w.heap.size, 0, none⟩) 9 9 [49, 50, 51, 52, 53, 54, 55, 56, 57] _ (isB_lit w #[.int .u8 49, .int .u8 50, .int .u8 51, .int .u8 52, .int .u8 53, .int .u8 54, .int .u8 55, .int .u8 56, .int .u8 57] 5 (9, 10) _ 9 rfl rfl) (by omega)
  rw [crc_123] at T
  refine T.mono ?_
  rintro e w2 ⟨rfl, rfl⟩
  clear T
  go_wp2
  go_ret
  exact ⟨rfl, (Below.refl _ _).alloc (Nat.le_refl _) _⟩
end Go.Proofs.Ytdcnfkndjjgobaa
