/-
  The walk of PackPuts: it returns true, and turns nothing that was there.
-/
import Derived.Test.YtbmodhclhifckaaPackAwake
import Derived.Test.YtbmodhclhifckaaPackRefPut
import Derived.OpenShut
namespace Go.Proofs.Ytbmodhclhifckaa.packPuts
open Go.RowKit
set_option linter.unusedVariables false

set_option maxHeartbeats 400000 in
theorem walk_no (s : ByteArray) (k n : Int) (w : World) (hs : s.size ≤ 140737488351232) (H : Hid (k < 1 ∨ 8 < k ∨ (256 : Int) ^ k.toNat ≤ n)) (h0 : 0 ≤ n) (hn : n < 18446744073709551616) :
    Calls Try.prog 3 #[.string s, .int .i64 k, .int .u64 n] w fun e w' => e = .returned (.bool true) ∧ Below w.heap.size w w' := by
  have hcv := fun w => Lib.run_convert_string_bytes (P := Try.prog) w 9 24 5 s Try.underlying9 Try.underlying24 Try.underlying5
  have hcn := fun w => run_toString (P := Try.prog) w 24 9 5 Try.underlying24 Try.underlying5 Try.underlying9 none 0 0 [] (IsB.nil w)
  go_enter Try.func3, Try.ntmps3
  go_wp2_with fail
  refine (awake_any _).mono ?_
  rintro e w1 ⟨rfl, hb1⟩
  go_wp2_with fail
  refine (put_no _ _ _ k n _ H.out h0 hn).mono ?_
  rintro e w2 ⟨rfl, rfl⟩
  go_wp2_with fail
  refine (rput_no s k n _ H h0 hn).mono ?_
  rintro e w2 ⟨rfl, rfl⟩
  go_wp2_with fail
  refine (fits_false k n _ H.out h0 hn).mono ?_
  rintro e w2 ⟨rfl, rfl⟩
  go_wp2_with fail
  refine (rfits_false k n _ H.out h0 hn).mono ?_
  rintro e w2 ⟨rfl, rfl⟩
  go_wp2
  go_ret
  exact ⟨rfl, hb1.trans ((below_conv w1 _ s).mono hb1.size)⟩

set_option maxHeartbeats 400000 in
theorem walk_yes (s : ByteArray) (k n : Nat) (w : World) (hs : s.size ≤ 140737488351232) (h1 : 1 ≤ k) (h2 : k ≤ 8) (hn : n < 256 ^ k) :
    Calls Try.prog 3 #[.string s, .int .i64 k, .int .u64 n] w fun e w' => e = .returned (.bool true) ∧ Below w.heap.size w w' := by
  have hcv := fun w => Lib.run_convert_string_bytes (P := Try.prog) w 9 24 5 s Try.underlying9 Try.underlying24 Try.underlying5
  go_enter Try.func3, Try.ntmps3
  go_wp2_with fail
  refine (awake_any _).mono ?_
  rintro e w1 ⟨rfl, hb1⟩
  go_wp2_with fail
  refine (put_ok _ _ _ k n s.data.toList _ (isB_conv w1 _ s) (by omega) h1 h2 hn).mono ?_
  rintro e w2 ⟨rfl, hown2, hb2⟩
  go_wp2_with fail
  refine (rput_ok s k n _ (by omega) h1 h2 hn).mono ?_
  rintro e w3 ⟨rfl, hb3⟩
  have hB := (hown2.isB (by simp [beB_length])).below hb3
  have hcv2 := run_toString (P := Try.prog) w3 24 9 5 Try.underlying24 Try.underlying5 Try.underlying9 _ (s.size + k) (s.size + k) _ hB
  clear hown2 hB
  go_wp2_with fail
  refine (fits_true k n _ h1 h2 hn).mono ?_
  rintro e w4 ⟨rfl, rfl⟩
  go_wp2_with fail
  refine (rfits_true k n _ h1 h2 hn).mono ?_
  rintro e w4 ⟨rfl, rfl⟩
  go_wp2
  go_ret
  have c1 := (below_conv w1 5 s).mono hb1.size
  have c2 := hb1.trans c1
  have c3 := c2.trans (hb2.mono c2.size)
  exact ⟨rfl, c3.trans (hb3.mono c3.size)⟩

theorem walk (a0 : ByteArray) (a1 a2 : Int) (z0 : a0.size ≤ 140737488351232) (w1 : (Lit.int .i64 a1).wf = true) (w2 : (Lit.int .u64 a2).wf = true) (w : World) :
    Calls Try.prog 3 #[.string a0, .int .i64 a1, .int .u64 a2] w fun e w' => e = .returned (.bool true) ∧ Below w.heap.size w w' := by
  have b2 := bounds_u64 w2
  by_cases h1 : a1 < 1 ∨ 8 < a1 ∨ (256 : Int) ^ a1.toNat ≤ a2
  · exact walk_no a0 a1 a2 w z0 h1 b2.1 (by omega)
  · obtain ⟨k, rfl⟩ := Int.eq_ofNat_of_zero_le (show 0 ≤ a1 by omega)
    obtain ⟨n, rfl⟩ := Int.eq_ofNat_of_zero_le b2.1
    rw [Int.toNat_natCast] at h1
    have e : ((256 ^ k : Nat) : Int) = (256 : Int) ^ k := by simp
    exact walk_yes a0 k n w z0 (by omega) (by omega) (by omega)
end Go.Proofs.Ytbmodhclhifckaa.packPuts
