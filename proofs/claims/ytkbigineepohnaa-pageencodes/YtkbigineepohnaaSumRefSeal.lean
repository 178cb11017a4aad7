/-
  The contracts of quaysideref02's run, Of and Seal.
-/
import Derived.Test.YtkbigineepohnaaProg
import Derived.Test.YtkbigineepohnaaPackMath
import Derived.Test.YtkbigineepohnaaSumMath
import Derived.WalkSpells
namespace Go.Proofs.Ytkbigineepohnaa
open Go.RowKit
set_option linter.unusedVariables false

theorem bit_form (s : ByteArray) (j : Nat) (h : j / 8 < s.size) : (IntKind.u64.wrap (s[j / 8].toNat : Int) / 2 ^ (j % 8)).tmod 2 = ((bitAt s.data.toList j).toNat : Int) := by
  have hb : s[j / 8].toNat < 256 := s[j / 8].toNat_lt
  have e : IntKind.u64.wrap (s[j / 8].toNat : Int) = (s[j / 8].toNat : Int) := by rw [IntKind.wrap_u64]; omega
  rw [e, bitAt, getD_str s (j / 8) h, bit_mod]
  have e2 : (s[j / 8].toNat : Int) / 2 ^ (j % 8) = ((s[j / 8].toNat / 2 ^ (j % 8) : Nat) : Int) := by simp
  rw [e2]
  generalize s[j / 8].toNat / 2 ^ (j % 8) = q
  rw [Int.tmod_eq_emod_of_nonneg (by omega)]
  omega

theorem rr_yes (s : ByteArray) (q j : Nat) (hq : q < 2 ^ 32) (h : j / 8 < s.size) (ht : ((q : Int) % 2 != (IntKind.u64.wrap (s[j / 8].toNat : Int) / 2 ^ (j % 8)).tmod 2) = true) :
    bits .xor .u64 ((q : Int) / 2) 3988292384 = ((bst q (bitAt s.data.toList j) : Nat) : Int) := by
  rw [bit_form s j h, bne_iff_ne] at ht
  have e : ((q : Int) / 2) = ((q / 2 : Nat) : Int) := by omega
  have e2 : (3988292384 : Int) = ((3988292384 : Nat) : Int) := rfl
  rw [e, e2, u64_xor_nat (q / 2) 3988292384 (by omega) (by omega), bst_if, if_neg (by omega)]
  rfl

theorem rr_no (s : ByteArray) (q j : Nat) (h : j / 8 < s.size) (ht : ((q : Int) % 2 != (IntKind.u64.wrap (s[j / 8].toNat : Int) / 2 ^ (j % 8)).tmod 2) = false) :
    (q : Int) / 2 = ((bst q (bitAt s.data.toList j) : Nat) : Int) := by
  rw [bit_form s j h, bne_eq_false_iff_eq] at ht
  rw [bst_if, if_pos (by omega)]
  omega

set_option maxHeartbeats 400000 in
theorem rrun_any (s : ByteArray) (r : Nat) (w : World) (hs : s.size ≤ 140737488355328) (hr : r < 2 ^ 32) :
    Calls Try.prog 47 #[.int .u64 r, .string s] w fun e w' => e = .returned (.int .u64 (crun r s.data.toList : Nat)) ∧ w = w' := by
  go_enter Try.func47, Try.ntmps47
  go_wp2
  go_loop [0, 5] (fun q i => ∃ j : Nat, j ≤ 8 * s.size ∧ i = .int .i64 j ∧ q = .int .u64 (bruns r (bitAt s.data.toList) j : Nat)) (fun _ i => 8 * s.size - (intOf i).toNat)
  case atStart => exact ⟨0, Nat.zero_le _, rfl, rfl⟩
  case round =>
    obtain ⟨j, hj, rfl, rfl⟩ := hrel
    by_cases hlt : j < 8 * s.size
    · have hq := bruns_lt r (bitAt s.data.toList) hr j
      have hjs : j / 8 < s.size := by omega
      go_wp2
      · go_round
        case rel => exact ⟨j + 1, by omega, by go_num, congrArg (Value.int .u64) (rr_yes s _ j hq hjs (by assumption))⟩
        case measure => simp [intOf]; omega
      · go_round
        case rel => exact ⟨j + 1, by omega, by go_num, congrArg (Value.int .u64) (rr_no s _ j hjs (by assumption))⟩
        case measure => simp [intOf]; omega
    · go_wp2
      go_ret
      obtain rfl : j = 8 * s.size := by omega
      have e := crun_bruns r s.data.toList
      rw [data_length] at e
      rw [e]
      exact ⟨rfl, rfl⟩

set_option maxHeartbeats 400000 in
theorem rof_any (s : ByteArray) (w : World) (hs : s.size ≤ 140737488355328) :
    Calls Try.prog 42 #[.string s] w fun e w' => e = .returned (.int .u32 (crc s.data.toList : Nat)) ∧ w = w' := by
  have hc := crun_lt s.data.toList 4294967295 (by decide)
  have R := rrun_any s 4294967295 w hs (by decide)
  have HR := hide R
  clear R
  go_enter Try.func42, Try.ntmps42
  go_wp2_with fail
  refine HR.out.mono ?_
  rintro e w1 ⟨rfl, rfl⟩
  go_wp2
  go_ret
  exact ⟨congrArg (fun x => Ending.returned (Value.int .u32 x)) (ones_subI _ hc), rfl⟩

set_option maxHeartbeats 400000 in
theorem rseal_any (s : ByteArray) (w : World) (hs : s.size ≤ 140737488355328) :
    Calls Try.prog 30 #[.string s] w fun e w' => e = .returned (.string ⟨(s.data.toList ++ leB (crc s.data.toList)).toArray⟩) ∧ Below w.heap.size w w' := by
  have hx := crc_lt s.data.toList
  have R := rof_any s w hs
  obtain ⟨x, ex⟩ : ∃ x, x = crc s.data.toList := ⟨_, rfl⟩
  rw [← ex] at R hx
  rw [← ex]
  have HR := hide R
  clear R ex
  go_enter Try.func30, Try.ntmps30
  go_wp2_with fail
  refine HR.out.mono ?_
  rintro e w1 ⟨rfl, rfl⟩
  go_wp2
  go_loopw [3, 4, 5] (fun v o i wr => ∃ j : Nat, j ≤ 4 ∧ i = .int .i64 j ∧ v = .int .u32 (sh x j : Nat) ∧ o = .string ⟨(s.data.toList ++ (leB x).take j).toArray⟩ ∧ Below w.heap.size w wr) (fun _ _ i _ => 4 - (intOf i).toNat)
  case atStart => exact ⟨0, Nat.zero_le _, rfl, by rw [sh_zero], by rw [List.take_zero, List.append_nil, mk_self], Below.refl _ _⟩
  case round =>
    obtain ⟨j, hj, rfl, rfl, rfl, hbr⟩ := hrel
    have hsh : sh x j < 4294967296 := Nat.lt_of_le_of_lt (sh_le x j) hx
    by_cases hlt : j < 4
    · have hcv := run_oneByte (P := Try.prog) wr 29 9 5 Try.underlying29 Try.underlying5 Try.underlying9 (((sh x j : Nat) : Int) % 256) (UInt8.ofNat (sh x j)) (by rw [toNat_ofNat]; omega)
      have hln : ByteArray.size ⟨(s.data.toList ++ (leB x).take j).toArray⟩ + 1 ≤ 9223372036854775807 := by
        have e := size_mk (s.data.toList ++ (leB x).take j)
        rw [List.length_append, data_length, List.length_take] at e
        omega
      have hl1 : ByteArray.size ⟨#[UInt8.ofNat (sh x j)]⟩ = 1 := rfl
      go_wp2
      go_roundw
      case rel => exact ⟨j + 1, by omega, by go_num, by rw [← sh_succ x j]; go_num, by rw [leB_take x j hlt, ← List.append_assoc]; exact congrArg Value.string (mk_append _ [UInt8.ofNat (sh x j)]), hbr.alloc hbr.size _⟩
      case measure => simp [intOf]; omega
    · go_wp2
      go_ret
      obtain rfl : j = 4 := by omega
      exact ⟨rfl, hbr⟩
end Go.Proofs.Ytkbigineepohnaa
