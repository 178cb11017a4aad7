/-
  The walk of PackBack: where the texts are of bulk at most 1048576 it returns true, and turns nothing that was there.
-/
import Derived.Test.YtbmodhclhifckaaPackAwake
import Derived.OpenShut
namespace Go.Proofs.Ytbmodhclhifckaa.packBack
open Go.RowKit
set_option linter.unusedVariables false

set_option maxHeartbeats 400000 in
theorem walk_no (b t : ByteArray) (k n c : Int) (w : World) (H : Hid (k < 1 ∨ 8 < k ∨ (256 : Int) ^ k.toNat ≤ n)) (h0 : 0 ≤ n) (hn : n < 18446744073709551616) :
    Calls Try.prog 7 #[.string b, .string t, .int .i64 k, .int .u64 n, .int .u64 c] w fun e w' => e = .returned (.bool true) ∧ Below w.heap.size w w' := by
  have hcv := fun w => Lib.run_convert_string_bytes (P := Try.prog) w 9 24 5 b Try.underlying9 Try.underlying24 Try.underlying5
  go_enter Try.func7, Try.ntmps7
  go_wp2_with fail
  refine (awake_any _).mono ?_
  rintro e w1 ⟨rfl, hb1⟩
  go_wp2_with fail
  refine (put_no _ _ _ k n _ H.out h0 hn).mono ?_
  rintro e w2 ⟨rfl, rfl⟩
  go_wp2_with fail
  refine (fits_false k n _ H.out h0 hn).mono ?_
  rintro e w2 ⟨rfl, rfl⟩
  go_wp2
  go_ret
  exact ⟨rfl, hb1.trans ((below_conv w1 _ b).mono hb1.size)⟩

set_option maxHeartbeats 400000 in
theorem walk_yes (b t : ByteArray) (k n c : Nat) (w : World) (hb : b.size ≤ 1048576) (ht : t.size ≤ 1048576) (h1 : 1 ≤ k) (h2 : k ≤ 8) (hn : n < 256 ^ k) (hc : c < 18446744073709551616) :
    Calls Try.prog 7 #[.string b, .string t, .int .i64 k, .int .u64 n, .int .u64 c] w fun e w' => e = .returned (.bool true) ∧ Below w.heap.size w w' := by
  obtain ⟨i0, hi, hz0, hz1, hz2⟩ := info_parts info8
  have hcv := fun w => Lib.run_convert_string_bytes (P := Try.prog) w 9 24 5 b Try.underlying9 Try.underlying24 Try.underlying5
  have hmod : c % k < k := Nat.mod_lt _ (by omega)
  go_enter Try.func7, Try.ntmps7
  go_wp2_with fail
  refine (awake_any _).mono ?_
  rintro e w1 ⟨rfl, hb1⟩
  go_wp2_with fail
  refine (put_ok _ _ _ k n b.data.toList _ (isB_conv w1 _ b) (by omega) h1 h2 hn).mono ?_
  rintro e w2 ⟨rfl, hown2, hb2⟩
  have c1 := (below_conv w1 5 b).mono hb1.size
  have c2 := hb1.trans c1
  have c3 := c2.trans (hb2.mono c2.size)
  have hsz : (Lib.bytesWorld w1 5 b).heap.size ≤ w2.heap.size := hb2.size
  clear hb2 c1 hcv
  go_wp2_with (at_builtin; refine Lib.wpList_append_own_string _ rfl (.tmp 46) (.tmp 47) 24 9 rfl _ 5 i0 Try.underlying24 Try.underlying9 hi hz0 hz1 hz2 _ _ _ rfl hown2 t rfl (by unfold maxLen; omega) (by omega) hsz ?_)
  intro v4 w4 hown4 hgr _
  rw [toV_str] at hown4
  have c5 := c3.grown hgr c3.size (by intro k hk; simp [Value.ownBlock] at hk; have := c2.size; omega)
  obtain ⟨a4, cap4, hv, hcap, hB4⟩ := shape_isB hown4
  rw [hv]
  have T := take_any a4 (b.size + k + t.size) cap4 (b.data.toList ++ beB k n ++ t.data.toList) (b.size : Int) (k : Int) w4 hB4 (by omega) (by omega)
  have e := takeS_back b.data.toList t.data.toList k n h1 h2 hn
  rw [data_length] at e
  rw [e] at T
  have HT := hide T
  clear T e hgr hown4 hown2 hv
  go_wp2_with fail
  refine HT.out.mono ?_
  rintro e w5 ⟨rfl, rfl⟩
  have m1 : 0 ≤ (c : Int) % (k : Int) := by omega
  have m2 : (c : Int) % (k : Int) < (k : Int) := by omega
  have m3 : ¬ (k : Int) = 0 := by omega
  have m4 : ((k : Int) == 0) = false := by simp; omega
  go_wp2_with fail
  refine (take_short _ (b.size + c % k) (b.size + k) (b.size : Int) (k : Int) _ (by omega) (by omega) (by omega) (by omega) (by omega) (by omega)).mono ?_
  rintro e w6 ⟨rfl, rfl⟩
  go_wp2
  go_ret
  exact ⟨rfl, c5⟩

theorem walk (a0 a1 : ByteArray) (a2 a3 a4 : Int) (z0 : a0.size ≤ 1048576) (z1 : a1.size ≤ 1048576) (w2 : (Lit.int .i64 a2).wf = true) (w3 : (Lit.int .u64 a3).wf = true) (w4 : (Lit.int .u64 a4).wf = true) (w : World) :
    Calls Try.prog 7 #[.string a0, .string a1, .int .i64 a2, .int .u64 a3, .int .u64 a4] w fun e w' => e = .returned (.bool true) ∧ Below w.heap.size w w' := by
  have b3 := bounds_u64 w3
  have b4 := bounds_u64 w4
  by_cases h1 : a2 < 1 ∨ 8 < a2 ∨ (256 : Int) ^ a2.toNat ≤ a3
  · exact walk_no a0 a1 a2 a3 a4 w h1 b3.1 (by omega)
  · obtain ⟨k, rfl⟩ := Int.eq_ofNat_of_zero_le (show 0 ≤ a2 by omega)
    obtain ⟨n, rfl⟩ := Int.eq_ofNat_of_zero_le b3.1
    obtain ⟨c, rfl⟩ := Int.eq_ofNat_of_zero_le b4.1
    rw [Int.toNat_natCast] at h1
    have e : ((256 ^ k : Nat) : Int) = (256 : Int) ^ k := by simp
    exact walk_yes a0 a1 k n c w z0 z1 (by omega) (by omega) (by omega) (by omega)
end Go.Proofs.Ytbmodhclhifckaa.packBack
