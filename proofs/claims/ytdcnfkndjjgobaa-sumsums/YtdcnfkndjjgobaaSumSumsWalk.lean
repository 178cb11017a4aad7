/-
  The walk of SumSums: it returns true, and turns nothing that was there.
-/
import Derived.Test.YtdcnfkndjjgobaaSumAwake
import Derived.Test.YtdcnfkndjjgobaaSumRef
import Derived.OpenShut
namespace Go.Proofs.Ytdcnfkndjjgobaa.sumSums
open Go.RowKit
set_option linter.unusedVariables false

set_option maxHeartbeats 400000 in
theorem walk_long (s : ByteArray) (m : Int) (w : World) (h : 4096 < (s.size : Int)) :
    Calls Try.prog 3 #[.string s, .int .u32 m] w fun e w' => e = .returned (.bool true) ∧ Below w.heap.size w w' := by
  go_enter Try.func3, Try.ntmps3
  go_wp2_with fail
  refine (awake_any _).mono ?_
  rintro e w1 ⟨rfl, hb1⟩
  go_wp2_with fail
  refine (awake_any _).mono ?_
  rintro e w2 ⟨rfl, hb2⟩
  go_wp2
  go_ret
  exact ⟨rfl, hb1.trans (hb2.mono hb1.size)⟩

set_option maxHeartbeats 400000 in
theorem walk_short (s : ByteArray) (m : Nat) (w : World) (hm : m < 2 ^ 32) (h : ¬ 4096 < (s.size : Int)) :
    Calls Try.prog 3 #[.string s, .int .u32 m] w fun e w' => e = .returned (.bool true) ∧ Below w.heap.size w w' := by
  have hcv := fun w => Lib.run_convert_string_bytes (P := Try.prog) w 9 25 5 s Try.underlying9 Try.underlying25 Try.underlying5
  go_enter Try.func3, Try.ntmps3
  go_wp2_with fail
  refine (awake_any _).mono ?_
  rintro e w1 ⟨rfl, hb1⟩
  go_wp2_with fail
  refine (of_any _ _ _ s.data.toList _ (isB_conv w1 _ s) (by omega)).mono ?_
  rintro e w2 ⟨rfl, rfl⟩
  go_wp2_with fail
  refine (rof_any s _ (by omega)).mono ?_
  rintro e w2 ⟨rfl, rfl⟩
  have c1 := hb1.trans ((below_conv w1 5 s).mono hb1.size)
  clear hb1
  generalize Lib.bytesWorld w1 5 s = W at *
  go_wp2_with fail
  refine (more_any m _ _ _ s.data.toList _ hm (isB_conv W _ s) (by omega)).mono ?_
  rintro e w2 ⟨rfl, rfl⟩
  go_wp2_with fail
  refine (rmore_any s m _ (by omega) hm).mono ?_
  rintro e w2 ⟨rfl, rfl⟩
  go_wp2
  go_ret
  exact ⟨rfl, c1.trans ((below_conv W 5 s).mono c1.size)⟩

theorem walk (a0 : ByteArray) (a1 : Int) (z0 : a0.size ≤ 140737488351232) (w1 : (Lit.int .u32 a1).wf = true) (w : World) :
    Calls Try.prog 3 #[.string a0, .int .u32 a1] w fun e w' => e = .returned (.bool true) ∧ Below w.heap.size w w' := by
  have b1 := bounds_u32 w1
  by_cases h : 4096 < (a0.size : Int)
  · exact walk_long a0 a1 w h
  · obtain ⟨m, rfl⟩ := Int.eq_ofNat_of_zero_le b1.1
    exact walk_short a0 m w (by omega) h
end Go.Proofs.Ytdcnfkndjjgobaa.sumSums
