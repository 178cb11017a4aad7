/-
  The walk of SumBack: it returns true, and turns nothing that was there.
-/
import Derived.Test.YtdcnfkndjjgobaaSumAwake
import Derived.OpenShut
namespace Go.Proofs.Ytdcnfkndjjgobaa.sumBack
open Go.RowKit
set_option linter.unusedVariables false

set_option maxHeartbeats 400000 in
theorem walk_long (s : ByteArray) (w : World) (h : 4096 < (s.size : Int)) :
    Calls Try.prog 5 #[.string s] w fun e w' => e = .returned (.bool true) ∧ Below w.heap.size w w' := by
  go_enter Try.func5, Try.ntmps5
  go_wp2_with fail
  refine (awake_any _).mono ?_
  rintro e w1 ⟨rfl, hb1⟩
  go_wp2_with fail
  refine (awake_any _).mono ?_
  rintro e w2 ⟨rfl, hb2⟩
  go_wp2
  go_ret
  exact ⟨rfl, hb1.trans (hb2.mono hb1.size)⟩

set_option maxHeartbeats 400000 in
theorem walk_short (s : ByteArray) (w : World) (h : ¬ 4096 < (s.size : Int)) :
    Calls Try.prog 5 #[.string s] w fun e w' => e = .returned (.bool true) ∧ Below w.heap.size w w' := by
  have hcv := fun w => Lib.run_convert_string_bytes (P := Try.prog) w 9 25 5 s Try.underlying9 Try.underlying25 Try.underlying5
  go_enter Try.func5, Try.ntmps5
  go_wp2_with fail
  refine (awake_any _).mono ?_
  rintro e w1 ⟨rfl, hb1⟩
  go_wp2_with fail
  refine (seal_any _ _ _ s.data.toList _ (isB_conv w1 _ s) (by omega)).mono ?_
  rintro e w2 ⟨v, rfl, hown2, hb2⟩
  have c1 := hb1.trans ((below_conv w1 5 s).mono hb1.size)
  have c2 := c1.trans (hb2.mono c1.size)
  obtain ⟨a2, cap2, hv, hcap2, hB2⟩ := shape_isB hown2
  obtain ⟨g, off, ha, hg, hcell⟩ := hB2.2 (by omega)
  rw [hv, ha]
  rw [ha] at hB2
  clear hown2 hb2 hb1 c1 hv ha hcv
  have T := open_any (some ⟨g, off, none⟩) (s.size + 4) cap2 _ w2 hB2 (by omega) hcap2
  rw [openS_seal] at T
  have HT := hide T
  clear T
  go_wp2_with fail
  refine HT.out.mono ?_
  rintro e w3 ⟨v3, rfl, hown3, hb3⟩
  obtain ⟨a3, cap3, hv3, hcap3, hB3⟩ := shape_isB hown3
  rw [hv3]
  have hcv3 := run_toString (P := Try.prog) w3 25 9 5 Try.underlying25 Try.underlying5 Try.underlying9 a3 s.data.toList.length cap3 _ hB3
  rw [mk_self, data_length] at hcv3
  have c3 := c2.trans (hb3.mono c2.size)
  have hB4 := IsB.cut hB2.1 hg hcell 0 3 (by omega)
  have hB5 := hB4.below hb3
  have T := open_any (some ⟨g, off + 0, none⟩) 3 cap2 _ w3 hB5 (by omega) (by omega)
  rw [openS_short _ (by rw [hB5.1]; omega)] at T
  have HT2 := hide T
  clear T HT hown3 hv3 hB3 hB4 hB5 hcell
  go_wp2_with fail
  refine HT2.out.mono ?_
  rintro e w4 ⟨v4, rfl, hown4, hb4⟩
  obtain ⟨a4, cap4, hv4, hcap4, hB4⟩ := shape_isB hown4
  rw [hv4]
  have c4 := c3.trans (hb4.mono c3.size)
  clear hown4 hv4 hB4 HT2
  go_wp2
  go_ret
  exact ⟨rfl, c4⟩

theorem walk (a0 : ByteArray) (z0 : a0.size ≤ 140737488351232) (w : World) :
    Calls Try.prog 5 #[.string a0] w fun e w' => e = .returned (.bool true) ∧ Below w.heap.size w w' := by
  by_cases h : 4096 < (a0.size : Int)
  · exact walk_long a0 w h
  · exact walk_short a0 w h
end Go.Proofs.Ytdcnfkndjjgobaa.sumBack
