/-
  The contract of quaysideref01.Fits.
-/
import Derived.Test.YtbmodhclhifckaaProg
import Derived.Test.YtbmodhclhifckaaPackMath
import Derived.WalkSpells
namespace Go.Proofs.Ytbmodhclhifckaa
open Go.RowKit
set_option linter.unusedVariables false

set_option maxHeartbeats 400000 in
theorem rfits_no1 (k n : Int) (w : World) (h : k < 1) :
    Calls Try.prog 13 #[.int .i64 k, .int .u64 n] w fun e w' => e = .returned (.bool false) ∧ w = w' := by
  go_enter Try.func13, Try.ntmps13
  go_wp2
  go_ret
  exact ⟨rfl, rfl⟩

set_option maxHeartbeats 400000 in
theorem rfits_no2 (k n : Int) (w : World) (h : 8 < k) :
    Calls Try.prog 13 #[.int .i64 k, .int .u64 n] w fun e w' => e = .returned (.bool false) ∧ w = w' := by
  have h1 : ¬ k < 1 := by omega
  go_enter Try.func13, Try.ntmps13
  go_wp2
  go_ret
  exact ⟨rfl, rfl⟩

set_option maxHeartbeats 400000 in
theorem rfits_yes (k n : Nat) (w : World) (h1 : 1 ≤ k) (h2 : k ≤ 8) (hn : n < 18446744073709551616) :
    Calls Try.prog 13 #[.int .i64 k, .int .u64 n] w fun e w' => e = .returned (.bool (decide (n < 256 ^ k))) ∧ w = w' := by
  have h3 : ¬ (k : Int) < 1 := by omega
  have h4 : ¬ 8 < (k : Int) := by omega
  go_enter Try.func13, Try.ntmps13
  go_wp2
  go_loop [1, 5] (fun v i => ∃ j : Nat, j ≤ k ∧ i = .int .i64 j ∧ v = .int .u64 (sh n j : Nat)) (fun _ i => k - (intOf i).toNat)
  case atStart => exact ⟨0, Nat.zero_le _, rfl, by rw [sh_zero]⟩
  case round =>
    obtain ⟨j, hj, rfl, rfl⟩ := hrel
    have hsh : sh n j < 18446744073709551616 := Nat.lt_of_le_of_lt (sh_le n j) hn
    by_cases hlt : j < k
    · go_wp2
      go_round
      case rel => exact ⟨j + 1, by omega, by go_num, by rw [← sh_succ n j]; go_num⟩
      case measure => simp [intOf]; omega
    · go_wp2
      go_ret
      obtain rfl : j = k := by omega
      exact ⟨by rw [← sh_test n j]; rfl, rfl⟩

theorem rfits_true (k n : Nat) (w : World) (h1 : 1 ≤ k) (h2 : k ≤ 8) (hn : n < 256 ^ k) :
    Calls Try.prog 13 #[.int .i64 k, .int .u64 n] w fun e w' => e = .returned (.bool true) ∧ w = w' := by
  have F := rfits_yes k n w h1 h2 (Nat.lt_of_lt_of_le hn (pow256_le k h2))
  rwa [decide_eq_true hn] at F

theorem rfits_false (k n : Int) (w : World) (h : k < 1 ∨ 8 < k ∨ (256 : Int) ^ k.toNat ≤ n) (h0 : 0 ≤ n) (hn : n < 18446744073709551616) :
    Calls Try.prog 13 #[.int .i64 k, .int .u64 n] w fun e w' => e = .returned (.bool false) ∧ w = w' := by
  by_cases h1 : k < 1
  · exact rfits_no1 k n w h1
  by_cases h2 : 8 < k
  · exact rfits_no2 k n w h2
  obtain ⟨kn, rfl⟩ := Int.eq_ofNat_of_zero_le (show 0 ≤ k by omega)
  obtain ⟨nn, rfl⟩ := Int.eq_ofNat_of_zero_le h0
  have h3 : (256 : Int) ^ kn ≤ (nn : Int) := by rcases h with h | h | h <;> first | omega | exact h
  have h4 : ((256 ^ kn : Nat) : Int) ≤ (nn : Int) := by simpa using h3
  have F := rfits_yes kn nn w (by omega) (by omega) (by omega)
  rwa [decide_eq_false (show ¬ nn < 256 ^ kn by omega)] at F
end Go.Proofs.Ytbmodhclhifckaa
