/-
  The contracts of quaysideref01.Number and quaysideref01.Put.
-/
import Derived.Test.YtbmodhclhifckaaPackRefFits
namespace Go.Proofs.Ytbmodhclhifckaa
open Go.RowKit
set_option linter.unusedVariables false

set_option maxHeartbeats 400000 in
theorem number_any (k n : Nat) (w : World) (h2 : k ≤ 8) (hn : n < 18446744073709551616) :
    Calls Try.prog 21 #[.int .i64 k, .int .u64 n] w fun e w' => e = .returned (.string ⟨(beB k n).toArray⟩) ∧ Below w.heap.size w w' := by
  go_enter Try.func21, Try.ntmps21
  go_wp2
  go_loopw [1, 5, 6] (fun v s i wr => ∃ j : Nat, j ≤ k ∧ i = .int .i64 j ∧ v = .int .u64 (sh n j : Nat) ∧ s = .string ⟨(beB j n).toArray⟩ ∧ Below w.heap.size w wr) (fun _ _ i _ => k - (intOf i).toNat)
  case atStart => exact ⟨0, Nat.zero_le _, rfl, by rw [sh_zero], rfl, Below.refl _ _⟩
  case round =>
    obtain ⟨j, hj, rfl, rfl, rfl, hbr⟩ := hrel
    have hsh : sh n j < 18446744073709551616 := Nat.lt_of_le_of_lt (sh_le n j) hn
    by_cases hlt : j < k
    · have hcv := run_oneByte (P := Try.prog) wr 24 9 5 Try.underlying24 Try.underlying5 Try.underlying9 (((sh n j : Nat) : Int) % 256) (UInt8.ofNat (sh n j)) (by rw [toNat_ofNat]; omega)
      have hln : (beB j n).length = j := beB_length j n
      go_wp2
      go_roundw
      case rel => exact ⟨j + 1, by omega, by go_num, by rw [← sh_succ n j]; go_num, by rw [str_cons], hbr.alloc hbr.size _⟩
      case measure => simp [intOf]; omega
    · go_wp2
      go_ret
      obtain rfl : j = k := by omega
      exact ⟨rfl, hbr⟩

set_option maxHeartbeats 400000 in
theorem rput_ok (s : ByteArray) (k n : Nat) (w : World) (hs : s.size ≤ 140737488355328) (h1 : 1 ≤ k) (h2 : k ≤ 8) (hn : n < 256 ^ k) :
    Calls Try.prog 11 #[.string s, .int .i64 k, .int .u64 n] w fun e w' => e = .returned (.tuple #[.string ⟨(s.data.toList ++ beB k n).toArray⟩, .int .i64 0]) ∧ Below w.heap.size w w' := by
  have hln : (beB k n).length = k := beB_length k n
  have hsz : s.size + (ByteArray.size ⟨(beB k n).toArray⟩) ≤ 9223372036854775807 := by have e := size_mk (beB k n); omega
  go_enter Try.func11, Try.ntmps11
  go_wp2_with fail
  refine (rfits_true k n _ h1 h2 hn).mono ?_
  rintro e w1 ⟨rfl, rfl⟩
  go_wp2_with fail
  refine (number_any k n _ h2 (Nat.lt_of_lt_of_le hn (pow256_le k h2))).mono ?_
  rintro e w1 ⟨rfl, hb1⟩
  go_wp2
  go_ret2
  exact ⟨by rw [← str_append]; rfl, hb1⟩

set_option maxHeartbeats 400000 in
theorem rput_no (s : ByteArray) (k n : Int) (w : World) (H : Hid (k < 1 ∨ 8 < k ∨ (256 : Int) ^ k.toNat ≤ n)) (h0 : 0 ≤ n) (hn : n < 18446744073709551616) :
    Calls Try.prog 11 #[.string s, .int .i64 k, .int .u64 n] w fun e w' => e = .returned (.tuple #[.string ⟨#[]⟩, .int .i64 1]) ∧ w = w' := by
  go_enter Try.func11, Try.ntmps11
  go_wp2_with fail
  refine (rfits_false k n _ H.out h0 hn).mono ?_
  rintro e w1 ⟨rfl, rfl⟩
  go_wp2
  go_ret2
  exact ⟨rfl, rfl⟩
end Go.Proofs.Ytbmodhclhifckaa
