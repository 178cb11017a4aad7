/-
  The contract of quaysideref01.Number.
-/
import Derived.Test.YtmapgfakfeddmaaProg
import Derived.Test.YtmapgfakfeddmaaPackMath
import Derived.WalkSpells
namespace Go.Proofs.Ytmapgfakfeddmaa
open Go.RowKit
set_option linter.unusedVariables false

set_option maxHeartbeats 400000 in
theorem number_any (k n : Nat) (w : World) (h2 : k ≤ 8) (hn : n < 18446744073709551616) :
    Calls Try.prog 54 #[.int .i64 k, .int .u64 n] w fun e w' => e = .returned (.string ⟨(beB k n).toArray⟩) ∧ Below w.heap.size w w' := by
  go_enter Try.func54, Try.ntmps54
  go_wp2
  go_loopw [1, 5, 6] (fun v s i wr => ∃ j : Nat, j ≤ k ∧ i = .int .i64 j ∧ v = .int .u64 (sh n j : Nat) ∧ s = .string ⟨(beB j n).toArray⟩ ∧ Below w.heap.size w wr) (fun _ _ i _ => k - (intOf i).toNat)
  case atStart => exact ⟨0, Nat.zero_le _, rfl, by rw [sh_zero], rfl, Below.refl _ _⟩
  case round =>
    obtain ⟨j, hj, rfl, rfl, rfl, hbr⟩ := hrel
    have hsh : sh n j < 18446744073709551616 := Nat.lt_of_le_of_lt (sh_le n j) hn
    by_cases hlt : j < k
    · have hcv := run_oneByte (P := Try.prog) wr 30 9 5 Try.underlying30 Try.underlying5 Try.underlying9 (((sh n j : Nat) : Int) % 256) (UInt8.ofNat (sh n j)) (by rw [toNat_ofNat]; omega)
      have hln : (beB j n).length = j := beB_length j n
      go_wp2
      go_roundw
      case rel => exact ⟨j + 1, by omega, by go_num, by rw [← sh_succ n j]; go_num, by rw [str_cons], hbr.alloc hbr.size _⟩
      case measure => simp [intOf]; omega
    · go_wp2
      go_ret
      obtain rfl : j = k := by omega
      exact ⟨rfl, hbr⟩
end Go.Proofs.Ytmapgfakfeddmaa
