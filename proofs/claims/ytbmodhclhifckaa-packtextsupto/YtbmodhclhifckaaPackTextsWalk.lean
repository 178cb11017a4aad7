/-
  The walk of PackTexts: where the texts are of bulk at most 1048576 it returns true, and turns nothing that was there.
-/
import Derived.Test.YtbmodhclhifckaaPackAwake
import Derived.Test.YtbmodhclhifckaaPackPutText
import Derived.Test.YtbmodhclhifckaaPackRefPutText
import Derived.Test.YtbmodhclhifckaaPackTakeText
namespace Go.Proofs.Ytbmodhclhifckaa.packTexts
open Go.RowKit
set_option linter.unusedVariables false

set_option maxHeartbeats 400000 in
theorem walk_no (b s t : ByteArray) (w : World) (h : 255 < (s.size : Int)) :
    Calls Try.prog 5 #[.string b, .string s, .string t] w fun e w' => e = .returned (.bool true) ∧ Below w.heap.size w w' := by
  have hcv := fun w => Lib.run_convert_string_bytes (P := Try.prog) w 9 24 5 b Try.underlying9 Try.underlying24 Try.underlying5
  have hcn := fun w => run_toString (P := Try.prog) w 24 9 5 Try.underlying24 Try.underlying5 Try.underlying9 none 0 0 [] (IsB.nil w)
  go_enter Try.func5, Try.ntmps5
  go_wp2_with fail
  refine (awake_any _).mono ?_
  rintro e w1 ⟨rfl, hb1⟩
  go_wp2_with fail
  refine (puttext_no _ _ _ s _ h).mono ?_
  rintro e w2 ⟨rfl, rfl⟩
  go_wp2_with fail
  refine (rputtext_no b s _ h).mono ?_
  rintro e w2 ⟨rfl, rfl⟩
  go_wp2
  go_ret
  exact ⟨rfl, hb1.trans ((below_conv w1 _ b).mono hb1.size)⟩

set_option maxHeartbeats 400000 in
theorem walk_yes (b s t : ByteArray) (w : World) (h0 : b.size ≤ 1048576) (h : s.size ≤ 255) (h2 : t.size ≤ 1048576) :
    Calls Try.prog 5 #[.string b, .string s, .string t] w fun e w' => e = .returned (.bool true) ∧ Below w.heap.size w w' := by
  obtain ⟨i0, hi, hz0, hz1, hz2⟩ := info_parts info8
  have hcv := fun w => Lib.run_convert_string_bytes (P := Try.prog) w 9 24 5 b Try.underlying9 Try.underlying24 Try.underlying5
  go_enter Try.func5, Try.ntmps5
  go_wp2_with fail
  refine (awake_any _).mono ?_
  rintro e w1 ⟨rfl, hb1⟩
  go_wp2_with fail
  refine (puttext_ok _ _ _ b.data.toList s _ (isB_conv w1 _ b) (by omega) h).mono ?_
  rintro e w2 ⟨rfl, hown2, hb2⟩
  go_wp2_with fail
  refine (rputtext_ok b s _ (by omega) h).mono ?_
  rintro e w3 ⟨rfl, hb3⟩
  have hown3 := ownsRow_below hown2 hb3
  have hcv2 := run_toString (P := Try.prog) w3 24 9 5 Try.underlying24 Try.underlying5 Try.underlying9 _ (b.size + (1 + s.size)) (b.size + (1 + s.size)) _ (hown3.isB (by rw [List.length_append, textB_length, data_length, data_length]))
  have c1 := (below_conv w1 5 b).mono hb1.size
  have c2 := hb1.trans c1
  have c3 := c2.trans (hb2.mono c2.size)
  have c4 := c3.trans (hb3.mono c3.size)
  clear hown2 hb2 hb3 c1 c3
  have hsz : (Lib.bytesWorld w1 5 b).heap.size ≤ w3.heap.size := by have := (hown3.lt _ rfl); omega
  go_wp2_with (at_builtin; refine Lib.wpList_append_own_string _ rfl (.tmp 46) (.tmp 47) 24 9 rfl _ 5 i0 Try.underlying24 Try.underlying9 hi hz0 hz1 hz2 _ _ _ rfl hown3 t rfl (by unfold maxLen; omega) (by omega) hsz ?_)
  intro v4 w4 hown4 hgr _
  rw [toV_str] at hown4
  have c5 := c4.grown hgr c4.size (by intro k hk; simp [Value.ownBlock] at hk; have := c2.size; omega)
  obtain ⟨a4, cap4, hv, hcap, hB4⟩ := shape_isB hown4
  rw [hv]
  have T := ttext_any a4 (b.size + (1 + s.size) + t.size) cap4 (b.data.toList ++ textB s.data.toList ++ t.data.toList) (b.size : Int) w4 hB4 (by omega) hcap (by omega)
  have e := textS_back b.data.toList s.data.toList t.data.toList (by rw [data_length]; exact h)
  rw [data_length, data_length] at e
  rw [e, mk_self] at T
  have HT := hide T
  clear T e hgr hown4 hown3 hv hcv hcv2
  go_wp2_with fail
  refine HT.out.mono ?_
  rintro e w5 ⟨rfl, rfl⟩
  go_wp2
  go_ret
  exact ⟨rfl, c5⟩

theorem walk (a0 a1 a2 : ByteArray) (z0 : a0.size ≤ 1048576) (z1 : a1.size ≤ 1048576) (z2 : a2.size ≤ 1048576) (w : World) :
    Calls Try.prog 5 #[.string a0, .string a1, .string a2] w fun e w' => e = .returned (.bool true) ∧ Below w.heap.size w w' := by
  by_cases h : a1.size ≤ 255
  · exact walk_yes a0 a1 a2 w z0 h z2
  · exact walk_no a0 a1 a2 w (by omega)
end Go.Proofs.Ytbmodhclhifckaa.packTexts
