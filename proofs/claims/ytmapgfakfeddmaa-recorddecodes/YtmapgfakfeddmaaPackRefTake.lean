/-
  The contract of quaysideref01.Take: it answers 'takeS' too, over the string's bytes.
-/
import Derived.Test.YtmapgfakfeddmaaProg
import Derived.Test.YtmapgfakfeddmaaPackMath
import Derived.WalkSpells
namespace Go.Proofs.Ytmapgfakfeddmaa
open Go.RowKit
set_option linter.unusedVariables false

set_option maxHeartbeats 400000 in
theorem rtake_arg1 (s : ByteArray) (p k : Int) (w : World) (h : k < 1) :
    Calls Try.prog 49 #[.string s, .int .i64 p, .int .i64 k] w fun e w' => e = .returned (.tuple #[.int .u64 0, .int .i64 1]) ∧ w = w' := by
  go_enter Try.func49, Try.ntmps49
  go_wp2
  go_ret2
  exact ⟨rfl, rfl⟩

set_option maxHeartbeats 400000 in
theorem rtake_arg2 (s : ByteArray) (p k : Int) (w : World) (h : 8 < k) :
    Calls Try.prog 49 #[.string s, .int .i64 p, .int .i64 k] w fun e w' => e = .returned (.tuple #[.int .u64 0, .int .i64 1]) ∧ w = w' := by
  have h1 : ¬ k < 1 := by omega
  go_enter Try.func49, Try.ntmps49
  go_wp2
  go_ret2
  exact ⟨rfl, rfl⟩

set_option maxHeartbeats 400000 in
theorem rtake_arg3 (s : ByteArray) (p k : Int) (w : World) (h1 : 1 ≤ k) (h2 : k ≤ 8) (h3 : p < 0) :
    Calls Try.prog 49 #[.string s, .int .i64 p, .int .i64 k] w fun e w' => e = .returned (.tuple #[.int .u64 0, .int .i64 1]) ∧ w = w' := by
  have h4 : ¬ k < 1 := by omega
  have h5 : ¬ 8 < k := by omega
  go_enter Try.func49, Try.ntmps49
  go_wp2
  go_ret2
  exact ⟨rfl, rfl⟩

set_option maxHeartbeats 400000 in
theorem rtake_short1 (s : ByteArray) (p k : Int) (w : World) (h1 : 1 ≤ k) (h2 : k ≤ 8) (h3 : 0 ≤ p) (h4 : (s.size : Int) < p) :
    Calls Try.prog 49 #[.string s, .int .i64 p, .int .i64 k] w fun e w' => e = .returned (.tuple #[.int .u64 0, .int .i64 4]) ∧ w = w' := by
  have h5 : ¬ p < 0 := by omega
  have h6 : ¬ k < 1 := by omega
  have h7 : ¬ 8 < k := by omega
  go_enter Try.func49, Try.ntmps49
  go_wp2
  go_ret2
  exact ⟨rfl, rfl⟩

set_option maxHeartbeats 400000 in
theorem rtake_short2 (s : ByteArray) (p k : Int) (w : World) (hl : s.size ≤ 9223372036854775807) (h1 : 1 ≤ k) (h2 : k ≤ 8) (h3 : 0 ≤ p) (h4 : p ≤ (s.size : Int)) (h8 : (s.size : Int) - p < k) :
    Calls Try.prog 49 #[.string s, .int .i64 p, .int .i64 k] w fun e w' => e = .returned (.tuple #[.int .u64 0, .int .i64 4]) ∧ w = w' := by
  have h5 : ¬ p < 0 := by omega
  have h6 : ¬ k < 1 := by omega
  have h7 : ¬ 8 < k := by omega
  have h9 : ¬ (s.size : Int) < p := by omega
  go_enter Try.func49, Try.ntmps49
  go_wp2
  go_ret2
  exact ⟨rfl, rfl⟩

set_option maxHeartbeats 400000 in
theorem rtake_ok (s : ByteArray) (p k : Nat) (w : World) (hl : s.size ≤ 9223372036854775807) (h1 : 1 ≤ k) (h2 : k ≤ 8) (h4 : p + k ≤ s.size) :
    Calls Try.prog 49 #[.string s, .int .i64 p, .int .i64 k] w fun e w' => e = .returned (.tuple #[.int .u64 (beAt s.data.toList p k : Nat), .int .i64 0]) ∧ w = w' := by
  have h3 : ¬ (p : Int) < 0 := by omega
  have h5 : ¬ (s.size : Int) - (p : Int) < (k : Int) := by omega
  have h6 : ¬ (k : Int) < 1 := by omega
  have h7 : ¬ 8 < (k : Int) := by omega
  have h8 : ¬ (s.size : Int) < (p : Int) := by omega
  go_enter Try.func49, Try.ntmps49
  go_wp2
  go_loop [8, 9] (fun n i => ∃ j : Nat, j ≤ k ∧ i = .int .i64 j ∧ n = .int .u64 (beAt s.data.toList p j : Nat)) (fun _ i => k - (intOf i).toNat)
  case atStart => exact ⟨0, Nat.zero_le _, rfl, by rw [beAt_zero]; rfl⟩
  case round =>
    obtain ⟨j, hj, rfl, rfl⟩ := hrel
    by_cases hlt : j < k
    · have hn := beAt_lt7 s.data.toList p j (by omega)
      have hpj : p + j < s.size := by omega
      go_wp2
      go_round
      case rel => exact ⟨j + 1, by omega, by go_num, by rw [rtake_step s p j (by omega) (by omega)]⟩
      case measure => simp [intOf]; omega
    · go_wp2
      go_ret2
      obtain rfl : j = k := by omega
      exact ⟨rfl, rfl⟩

/-- THE CONTRACT. -/
theorem rtake_any (s : ByteArray) (p k : Int) (w : World) (hl : s.size ≤ 9223372036854775807) :
    Calls Try.prog 49 #[.string s, .int .i64 p, .int .i64 k] w fun e w' => e = .returned (.tuple #[.int .u64 (takeS s.data.toList p k).1, .int .i64 (takeS s.data.toList p k).2]) ∧ w = w' := by
  have hs : s.data.toList.length = s.size := by simp
  by_cases h1 : k < 1
  · rw [takeS_arg _ p k (Or.inl h1)]
    exact rtake_arg1 s p k w h1
  by_cases h2 : 8 < k
  · rw [takeS_arg _ p k (Or.inr (Or.inl h2))]
    exact rtake_arg2 s p k w h2
  by_cases h3 : p < 0
  · rw [takeS_arg _ p k (Or.inr (Or.inr h3))]
    exact rtake_arg3 s p k w (by omega) (by omega) h3
  have h0 : ¬ (k < 1 ∨ 8 < k ∨ p < 0) := by omega
  by_cases h4 : (s.data.toList.length : Int) - p < k
  · rw [takeS_short _ p k h0 h4]
    by_cases h5 : (s.size : Int) < p
    · exact rtake_short1 s p k w (by omega) (by omega) (by omega) h5
    · exact rtake_short2 s p k w hl (by omega) (by omega) (by omega) (by omega) (by omega)
  · rw [takeS_ok _ p k h0 h4]
    obtain ⟨pn, rfl⟩ := Int.eq_ofNat_of_zero_le (show 0 ≤ p by omega)
    obtain ⟨kn, rfl⟩ := Int.eq_ofNat_of_zero_le (show 0 ≤ k by omega)
    exact rtake_ok s pn kn w hl (by omega) (by omega) (by omega)
end Go.Proofs.Ytmapgfakfeddmaa
