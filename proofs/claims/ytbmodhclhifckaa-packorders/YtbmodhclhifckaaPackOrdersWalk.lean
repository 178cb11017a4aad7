/-
  The walk of PackOrders: it returns true, and turns nothing that was there.
-/
import Derived.Test.YtbmodhclhifckaaPackAwake
import Derived.Test.YtbmodhclhifckaaPackRefFits
import Derived.OpenShut
namespace Go.Proofs.Ytbmodhclhifckaa.packOrders
open Go.RowKit
set_option linter.unusedVariables false

set_option maxHeartbeats 400000 in
theorem walk_no1 (k n m : Int) (w : World) (H : Hid (k < 1 ∨ 8 < k ∨ (256 : Int) ^ k.toNat ≤ n)) (h0 : 0 ≤ n) (hn : n < 18446744073709551616) :
    Calls Try.prog 8 #[.int .i64 k, .int .u64 n, .int .u64 m] w fun e w' => e = .returned (.bool true) ∧ Below w.heap.size w w' := by
  go_enter Try.func8, Try.ntmps8
  go_wp2_with fail
  refine (awake_any _).mono ?_
  rintro e w1 ⟨rfl, hb1⟩
  go_wp2_with fail
  refine (rfits_false k n _ H.out h0 hn).mono ?_
  rintro e w2 ⟨rfl, rfl⟩
  go_wp2
  go_ret
  exact ⟨rfl, hb1⟩

set_option maxHeartbeats 400000 in
theorem walk_no2 (k n : Nat) (m : Int) (w : World) (h1 : 1 ≤ k) (h2 : k ≤ 8) (hn : n < 256 ^ k) (h3 : (256 : Int) ^ k ≤ m) (hm : m < 18446744073709551616) (h0 : 0 ≤ m) :
    Calls Try.prog 8 #[.int .i64 k, .int .u64 n, .int .u64 m] w fun e w' => e = .returned (.bool true) ∧ Below w.heap.size w w' := by
  go_enter Try.func8, Try.ntmps8
  go_wp2_with fail
  refine (awake_any _).mono ?_
  rintro e w1 ⟨rfl, hb1⟩
  go_wp2_with fail
  refine (rfits_true k n _ h1 h2 hn).mono ?_
  rintro e w2 ⟨rfl, rfl⟩
  go_wp2_with fail
  refine (rfits_false k m _ (Or.inr (Or.inr h3)) h0 hm).mono ?_
  rintro e w2 ⟨rfl, rfl⟩
  go_wp2
  go_ret
  exact ⟨rfl, hb1⟩

set_option maxHeartbeats 400000 in
theorem walk_yes (k n m : Nat) (w : World) (h1 : 1 ≤ k) (h2 : k ≤ 8) (hn : n < 256 ^ k) (hm : m < 256 ^ k) :
    Calls Try.prog 8 #[.int .i64 k, .int .u64 n, .int .u64 m] w fun e w' => e = .returned (.bool true) ∧ Below w.heap.size w w' := by
  go_enter Try.func8, Try.ntmps8
  go_wp2_with fail
  refine (awake_any _).mono ?_
  rintro e w1 ⟨rfl, hb1⟩
  go_wp2_with fail
  refine (rfits_true k n _ h1 h2 hn).mono ?_
  rintro e w2 ⟨rfl, rfl⟩
  go_wp2_with fail
  refine (rfits_true k m _ h1 h2 hm).mono ?_
  rintro e w2 ⟨rfl, rfl⟩
  go_wp2_with fail
  refine (put_ok none 0 0 k n [] w1 (IsB.nil w1) (by omega) h1 h2 hn).mono ?_
  rintro e w2 ⟨rfl, hown2, hb2⟩
  go_wp2_with fail
  refine (put_ok none 0 0 k m [] w2 (IsB.nil w2) (by omega) h1 h2 hm).mono ?_
  rintro e w3 ⟨rfl, hown3, hb3⟩
  have hlt := (hown2.lt w1.heap.size rfl).2
  have hB2 := (hown2.isB (by simp [beB_length])).below hb3
  have hB3 := hown3.isB (by simp [beB_length])
  have hcv2 := run_toString (P := Try.prog) w3 24 9 5 Try.underlying24 Try.underlying5 Try.underlying9 _ (0 + k) (0 + k) _ hB2
  have hcv3 := run_toString (P := Try.prog) w3 24 9 5 Try.underlying24 Try.underlying5 Try.underlying9 _ (0 + k) (0 + k) _ hB3
  rw [Nat.zero_add, List.nil_append] at hcv2 hcv3
  clear hown2 hown3 hB2 hB3
  have hx : (Op.bytesLess (beB k n) (beB k m) == decide (n < m)) = true := by rw [less_beB k n m hn hm]; simp
  have HX : Hid ((Op.bytesLess (beB k n) (beB k m) == decide (n < m)) = true) := hx
  clear hx
  go_wp2
  go_ret
  exact ⟨congrArg (fun b => Ending.returned (.bool b)) HX.out, hb1.trans ((hb2.mono hb1.size).trans (hb3.mono (Nat.le_trans hb1.size hb2.size)))⟩

theorem walk (a0 a1 a2 : Int) (w0 : (Lit.int .i64 a0).wf = true) (w1 : (Lit.int .u64 a1).wf = true) (w2 : (Lit.int .u64 a2).wf = true) (w : World) :
    Calls Try.prog 8 #[.int .i64 a0, .int .u64 a1, .int .u64 a2] w fun e w' => e = .returned (.bool true) ∧ Below w.heap.size w w' := by
  have b1 := bounds_u64 w1
  have b2 := bounds_u64 w2
  by_cases h1 : a0 < 1 ∨ 8 < a0 ∨ (256 : Int) ^ a0.toNat ≤ a1
  · exact walk_no1 a0 a1 a2 w h1 b1.1 (by omega)
  · obtain ⟨k, rfl⟩ := Int.eq_ofNat_of_zero_le (show 0 ≤ a0 by omega)
    obtain ⟨n, rfl⟩ := Int.eq_ofNat_of_zero_le b1.1
    obtain ⟨m, rfl⟩ := Int.eq_ofNat_of_zero_le b2.1
    rw [Int.toNat_natCast] at h1
    have e : ((256 ^ k : Nat) : Int) = (256 : Int) ^ k := by simp
    by_cases h2 : (256 : Int) ^ k ≤ (m : Int)
    · exact walk_no2 k n m w (by omega) (by omega) (by omega) h2 (by omega) (by omega)
    · exact walk_yes k n m w (by omega) (by omega) (by omega) (by omega)
end Go.Proofs.Ytbmodhclhifckaa.packOrders
