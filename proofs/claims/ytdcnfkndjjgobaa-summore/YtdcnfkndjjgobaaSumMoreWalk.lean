/-
  The walk of SumMore: it returns true, and turns nothing that was there.
-/
import Derived.Test.YtdcnfkndjjgobaaSumAwake
import Derived.OpenShut
namespace Go.Proofs.Ytdcnfkndjjgobaa.sumMore
open Go.RowKit
set_option linter.unusedVariables false

set_option maxHeartbeats 400000 in
theorem walk_long1 (a b : ByteArray) (w : World) (h : 4096 < (a.size : Int)) :
    Calls Try.prog 6 #[.string a, .string b] w fun e w' => e = .returned (.bool true) ∧ Below w.heap.size w w' := by
  go_enter Try.func6, Try.ntmps6
  go_wp2_with fail
  refine (awake_any _).mono ?_
  rintro e w1 ⟨rfl, hb1⟩
  go_wp2_with fail
  refine (awake_any _).mono ?_
  rintro e w2 ⟨rfl, hb2⟩
  go_wp2
  go_ret
  exact ⟨rfl, hb1.trans (hb2.mono hb1.size)⟩

set_option maxHeartbeats 400000 in
theorem walk_long2 (a b : ByteArray) (w : World) (h0 : ¬ 4096 < (a.size : Int)) (h : 4096 < (b.size : Int)) :
    Calls Try.prog 6 #[.string a, .string b] w fun e w' => e = .returned (.bool true) ∧ Below w.heap.size w w' := by
  go_enter Try.func6, Try.ntmps6
  go_wp2_with fail
  refine (awake_any _).mono ?_
  rintro e w1 ⟨rfl, hb1⟩
  go_wp2_with fail
  refine (awake_any _).mono ?_
  rintro e w2 ⟨rfl, hb2⟩
  go_wp2
  go_ret
  exact ⟨rfl, hb1.trans (hb2.mono hb1.size)⟩

set_option maxHeartbeats 400000 in
theorem walk_short (a b : ByteArray) (w : World) (h0 : ¬ 4096 < (a.size : Int)) (h : ¬ 4096 < (b.size : Int)) :
    Calls Try.prog 6 #[.string a, .string b] w fun e w' => e = .returned (.bool true) ∧ Below w.heap.size w w' := by
  have hcv := fun w s => Lib.run_convert_string_bytes (P := Try.prog) w 9 25 5 s Try.underlying9 Try.underlying25 Try.underlying5
  have hsz : (a ++ b).size = a.size + b.size := ByteArray.size_append
  have hl : a.size + b.size ≤ 9223372036854775807 := by omega
  have hab : (a ++ b).data.toList = a.data.toList ++ b.data.toList := by simp
  go_enter Try.func6, Try.ntmps6
  go_wp2_with fail
  refine (awake_any _).mono ?_
  rintro e w1 ⟨rfl, hb1⟩
  have hB := isB_conv w1 5 (a ++ b)
  rw [hsz, hab] at hB
  have T := of_any (some ⟨w1.heap.size, 0, none⟩) (a.size + b.size) (grownCap w1 (a.size + b.size) 0 5) (a.data.toList ++ b.data.toList) _ hB (by omega)
  rw [crc_more] at T
  have HT := hide T
  clear T hB hab
  go_wp2_with fail
  refine HT.out.mono ?_
  rintro e w2 ⟨rfl, rfl⟩
  have c1 := hb1.trans ((below_conv w1 5 (a ++ b)).mono hb1.size)
  clear hb1 HT hsz
  generalize Lib.bytesWorld w1 5 (a ++ b) = W at *
  go_wp2_with fail
  refine (of_any _ _ _ a.data.toList _ (isB_conv W _ a) (by omega)).mono ?_
  rintro e w2 ⟨rfl, rfl⟩
  have c2 := c1.trans ((below_conv W 5 a).mono c1.size)
  clear c1
  generalize Lib.bytesWorld W 5 a = V at *
  go_wp2_with fail
  refine (more_any _ _ _ _ b.data.toList _ (crc_lt _) (isB_conv V _ b) (by omega)).mono ?_
  rintro e w2 ⟨rfl, rfl⟩
  go_wp2
  go_ret
  exact ⟨rfl, c2.trans ((below_conv V 5 b).mono c2.size)⟩

theorem walk (a0 a1 : ByteArray) (z0 : a0.size ≤ 140737488351232) (z1 : a1.size ≤ 140737488351232) (w : World) :
    Calls Try.prog 6 #[.string a0, .string a1] w fun e w' => e = .returned (.bool true) ∧ Below w.heap.size w w' := by
  by_cases h : 4096 < (a0.size : Int)
  · exact walk_long1 a0 a1 w h
  by_cases h2 : 4096 < (a1.size : Int)
  · exact walk_long2 a0 a1 w h h2
  · exact walk_short a0 a1 w h h2
end Go.Proofs.Ytdcnfkndjjgobaa.sumMore
