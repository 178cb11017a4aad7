/-
  The walk of SumTurned: it returns true, and turns nothing that was there.
-/
import Derived.Test.YtdcnfkndjjgobaaSumAwake
import Derived.OpenShut
namespace Go.Proofs.Ytdcnfkndjjgobaa.sumTurned
open Go.RowKit
set_option linter.unusedVariables false

set_option maxHeartbeats 400000 in
theorem walk_long (s : ByteArray) (p t : Int) (w : World) (h : 4096 < (s.size : Int)) :
    Calls Try.prog 7 #[.string s, .int .u64 p, .int .u32 t] w fun e w' => e = .returned (.bool true) ∧ Below w.heap.size w w' := by
  go_enter Try.func7, Try.ntmps7
  go_wp2_with fail
  refine (awake_any _).mono ?_
  rintro e w1 ⟨rfl, hb1⟩
  go_wp2_with fail
  refine (awake_any _).mono ?_
  rintro e w2 ⟨rfl, hb2⟩
  go_wp2
  go_ret
  exact ⟨rfl, hb1.trans (hb2.mono hb1.size)⟩

set_option maxHeartbeats 400000 in
theorem walk_none (s : ByteArray) (p : Int) (w : World) (h : ¬ 4096 < (s.size : Int)) :
    Calls Try.prog 7 #[.string s, .int .u64 p, .int .u32 0] w fun e w' => e = .returned (.bool true) ∧ Below w.heap.size w w' := by
  have hd : decide (4096 < (s.size : Int)) = false := by simpa using h
  go_enter Try.func7, Try.ntmps7
  go_wp2_with fail
  refine (awake_any _).mono ?_
  rintro e w1 ⟨rfl, hb1⟩
  go_wp2_with fail
  refine (awake_any _).mono ?_
  rintro e w2 ⟨rfl, hb2⟩
  go_wp2
  go_ret
  exact ⟨rfl, hb1.trans (hb2.mono hb1.size)⟩

theorem tb (t j : Nat) (ht : t < 2 ^ 32) : (bits .and .u32 ((t : Int) / 2 ^ j) 1 == 1) = t.testBit j := by
  have e : (t : Int) / 2 ^ j = ((t / 2 ^ j : Nat) : Int) := by simp
  have hl : t / 2 ^ j < 4294967296 := Nat.lt_of_le_of_lt (Nat.div_le_self _ _) ht
  have e1 : (1 : Int) = ((1 : Nat) : Int) := rfl
  rw [e, e1, u32_and_nat _ _ hl (by omega), nat_mask1, Nat.testBit_eq_decide_div_mod_eq]
  generalize t / 2 ^ j = q
  rw [Bool.eq_iff_iff]
  simp only [beq_iff_eq, decide_eq_true_eq]
  omega

theorem flip_cell (x : UInt8) (r : Nat) (hr : r < 8) : bits .xor .u8 (x.toNat : Int) ((2 : Int) ^ r % 256) = ((x ^^^ UInt8.ofNat (2 ^ r)).toNat : Int) := by
  have hp : 2 ^ r < 256 := Nat.pow_lt_pow_right (a := 2) (m := r) (n := 8) (by omega) hr
  have e1 : (2 : Int) ^ r % 256 = ((2 ^ r : Nat) : Int) := by
    have e2 : (2 : Int) ^ r = ((2 ^ r : Nat) : Int) := by simp
    rw [e2]
    exact Int.emod_eq_of_lt (Int.natCast_nonneg _) (Int.ofNat_lt.2 hp)
  rw [e1, u8_xor_nat _ _ x.toNat_lt hp, UInt8.toNat_xor, toNat_ofNat, Nat.mod_eq_of_lt hp]

theorem toV_set (L : List UInt8) (q : Nat) (y : UInt8) : (toV L).set q (.int .u8 (y.toNat : Int)) = toV (L.set q y) := by simp [toV, List.map_set]

set_option maxHeartbeats 800000 in
theorem walk_yes (s : ByteArray) (p t : Nat) (w : World) (h : ¬ 4096 < (s.size : Int)) (hp : p < 18446744073709551616) (ht : t < 2 ^ 32) (h0 : t ≠ 0) :
    Calls Try.prog 7 #[.string s, .int .u64 p, .int .u32 t] w fun e w' => e = .returned (.bool true) ∧ Below w.heap.size w w' := by
  have hd : decide (4096 < (s.size : Int)) = false := by simpa using h
  have ht0 : ((t : Int) == 0) = false := by simpa using h0
  have hcv := fun w => Lib.run_convert_string_bytes (P := Try.prog) w 9 25 5 s Try.underlying9 Try.underlying25 Try.underlying5
  obtain ⟨k, hk, hkle⟩ : ∃ k : Nat, (p : Int) % (8 * ((s.size : Int) + 4) - 31) = (k : Int) ∧ k ≤ 8 * s.size := by
    refine ⟨p % (8 * s.size + 1), ?_, ?_⟩
    · have e : (8 * ((s.size : Int) + 4) - 31) = ((8 * s.size + 1 : Nat) : Int) := by omega
      rw [e]
      exact (Int.natCast_emod p (8 * s.size + 1)).symm
    · have := Nat.mod_lt p (show 0 < 8 * s.size + 1 by omega)
      omega
  go_enter Try.func7, Try.ntmps7
  go_wp2_with fail
  refine (awake_any _).mono ?_
  rintro e w1 ⟨rfl, hb1⟩
  go_wp2_with fail
  refine (seal_any _ _ _ s.data.toList _ (isB_conv w1 _ s) (by omega)).mono ?_
  rintro e w2 ⟨v, rfl, hown2, hb2⟩
  have c1 := hb1.trans ((below_conv w1 5 s).mono hb1.size)
  have c2 := c1.trans (hb2.mono c1.size)
  obtain ⟨g, cap, hv, hg⟩ := own_slice hown2 (by omega)
  rw [hv]
  rw [hv] at hown2
  have hgw : w.heap.size ≤ g := Nat.le_trans c1.size hg
  clear hb2 hb1 c1 hv hcv hg
  have hSl : (s.data.toList ++ leB (crc s.data.toList)).length = s.size + 4 := by rw [List.length_append, leB_length, data_length]
  generalize hS : s.data.toList ++ leB (crc s.data.toList) = S at hown2 hSl
  have HS := hide hS
  clear hS
  go_wp2
  clear hk
  go_loopw [9] (fun i wr => ∃ j : Nat, j ≤ 32 ∧ i = .int .i64 j ∧ wr.ownsRow (Lib.bytesWorld w1 5 s).heap.size 5 1 (.slice (some ⟨g, 0, none⟩) (s.size + 4) cap) (s.size + 4) (toV (fl S k t j)) ∧ Below w.heap.size w wr) (fun i _ => 32 - (intOf i).toNat)
  case atStart => exact ⟨0, Nat.zero_le _, rfl, hown2, c2⟩
  case round =>
    obtain ⟨j, hj, rfl, hownr, hbr⟩ := hrel
    clear hown2 c2
    by_cases hlt : j < 32
    · have hq : (k + j) / 8 < s.size + 4 := by omega
      have hfl : (fl S k t j).length = s.size + 4 := by rw [fl_length]; exact hSl
      have hcj : wr.cell? ⟨g, (k + j) / 8, none⟩ = some (.int .u8 (((fl S k t j).getD ((k + j) / 8) 0).toNat : Int)) := (hownr.cellAt ((k + j) / 8) (by omega)).trans (toV_get _ ((k + j) / 8) (by rw [hfl]; exact hq))
      have hfs : fl S k t (j + 1) = if t.testBit j then (fl S k t j).set ((k + j) / 8) ((fl S k t j).getD ((k + j) / 8) 0 ^^^ UInt8.ofNat (2 ^ ((k + j) % 8))) else fl S k t j := rfl
      generalize (fl S k t j).getD ((k + j) / 8) 0 = x at hcj hfs
      have HF := hide hfs
      have HT := hide (tb t j ht)
      clear hfs hfl
      have hfj : wr.frozen? ⟨g, (k + j) / 8, none⟩ = false := hownr.frozenAt _
      go_wp2
      · have hbit : t.testBit j = true := by rw [← HT.out]; assumption
        have hst := (hownr.stored ((k + j) / 8) (.int .u8 ((x ^^^ UInt8.ofNat (2 ^ ((k + j) % 8))).toNat : Int))).1
        have hfs := HF.out
        rw [if_pos hbit] at hfs
        rw [toV_set, ← hfs, ← flip_cell x ((k + j) % 8) (by omega)] at hst
        go_roundw
        case rel => exact ⟨j + 1, by omega, by go_num, hst, hbr.setCell (by exact hgw) _⟩
        case measure => simp [intOf]; omega
      · have hbit : t.testBit j = false := by rw [← HT.out]; assumption
        have hfs := HF.out
        rw [hbit] at hfs
        have hfe : fl S k t (j + 1) = fl S k t j := hfs
        go_roundw
        case rel => exact ⟨j + 1, by omega, by go_num, by rw [hfe]; exact hownr, hbr⟩
        case measure => simp [intOf]; omega
    · obtain rfl : j = 32 := by omega
      have hB := hownr.isB (by rw [fl_length]; exact hSl)
      have hop : openS (fl S k t 32) = ([], 3) := by
        have hS := HS.out
        have hsd := data_length s
        refine openS_turned s.data.toList (fl S k t 32) k t ht h0 (by rw [fl_length, hsd]; exact hSl) (by omega) fun i hi => ?_
        rw [hS]
        exact fl_bits S k t 32 (by omega) i (by omega)
      have T := open_any (some ⟨g, 0, none⟩) (s.size + 4) cap _ wr hB (by omega) (own_cap hownr)
      rw [hop] at T
      have HT := hide T
      clear T hB hop hownr
      go_wp2_with fail
      refine HT.out.mono ?_
      rintro e w4 ⟨v4, rfl, hown4, hb4⟩
      obtain ⟨a4, cap4, hv4, hcap4, hB4⟩ := shape_isB hown4
      rw [hv4]
      have c4 := hbr.trans (hb4.mono hbr.size)
      clear hown4 hv4 hB4 HT
      go_wp2
      go_ret
      exact ⟨rfl, c4⟩

theorem walk (a0 : ByteArray) (a1 a2 : Int) (z0 : a0.size ≤ 140737488351232) (w1 : (Lit.int .u64 a1).wf = true) (w2 : (Lit.int .u32 a2).wf = true) (w : World) :
    Calls Try.prog 7 #[.string a0, .int .u64 a1, .int .u32 a2] w fun e w' => e = .returned (.bool true) ∧ Below w.heap.size w w' := by
  have b1 := bounds_u64 w1
  have b2 := bounds_u32 w2
  by_cases h : 4096 < (a0.size : Int)
  · exact walk_long a0 a1 a2 w h
  by_cases h0 : a2 = 0
  · subst h0
    exact walk_none a0 a1 w h
  · obtain ⟨p, rfl⟩ := Int.eq_ofNat_of_zero_le b1.1
    obtain ⟨t, rfl⟩ := Int.eq_ofNat_of_zero_le b2.1
    exact walk_yes a0 p t w h (by omega) (by omega) (by omega)
end Go.Proofs.Ytdcnfkndjjgobaa.sumTurned
