/-
  The walk of SumLinear: it returns true, and turns nothing that was there.
-/
import Derived.Test.YtdcnfkndjjgobaaSumAwake
import Derived.OpenShut
import Derived.RegionTactic
import Derived.BigRegion
namespace Go.Proofs.Ytdcnfkndjjgobaa.sumLinear
open Go.RowKit
set_option linter.unusedVariables false

set_option maxHeartbeats 400000 in
theorem walk_no1 (a b c : ByteArray) (w : World) (h : 4096 < (a.size : Int)) :
    Calls Try.prog 8 #[.string a, .string b, .string c] w fun e w' => e = .returned (.bool true) ∧ Below w.heap.size w w' := by
  go_enter Try.func8, Try.ntmps8
  go_wp2_with fail
  refine (awake_any _).mono ?_
  rintro e w1 ⟨rfl, hb1⟩
  go_wp2_with fail
  refine (awake_any _).mono ?_
  rintro e w2 ⟨rfl, hb2⟩
  go_wp2
  go_ret
  exact ⟨rfl, hb1.trans (hb2.mono hb1.size)⟩

set_option maxHeartbeats 400000 in
theorem walk_no2 (a b c : ByteArray) (w : World) (h : ¬ 4096 < (a.size : Int)) (h2 : ((b.size : Int) != (a.size : Int)) = true) :
    Calls Try.prog 8 #[.string a, .string b, .string c] w fun e w' => e = .returned (.bool true) ∧ Below w.heap.size w w' := by
  have hd : decide (4096 < (a.size : Int)) = false := by simpa using h
  go_enter Try.func8, Try.ntmps8
  go_wp2_with fail
  refine (awake_any _).mono ?_
  rintro e w1 ⟨rfl, hb1⟩
  go_wp2_with fail
  refine (awake_any _).mono ?_
  rintro e w2 ⟨rfl, hb2⟩
  go_wp2
  go_ret
  exact ⟨rfl, hb1.trans (hb2.mono hb1.size)⟩

set_option maxHeartbeats 400000 in
theorem walk_no3 (a b c : ByteArray) (w : World) (h : ¬ 4096 < (a.size : Int)) (h2 : ((b.size : Int) != (a.size : Int)) = false) (h3 : ((c.size : Int) != (a.size : Int)) = true) :
    Calls Try.prog 8 #[.string a, .string b, .string c] w fun e w' => e = .returned (.bool true) ∧ Below w.heap.size w w' := by
  have hd : decide (4096 < (a.size : Int)) = false := by simpa using h
  go_enter Try.func8, Try.ntmps8
  go_wp2_with fail
  refine (awake_any _).mono ?_
  rintro e w1 ⟨rfl, hb1⟩
  go_wp2_with fail
  refine (awake_any _).mono ?_
  rintro e w2 ⟨rfl, hb2⟩
  go_wp2
  go_ret
  exact ⟨rfl, hb1.trans (hb2.mono hb1.size)⟩

theorem lin_cell (a b c : ByteArray) (j : Nat) (ha : j < a.size) (hb : j < b.size) (hc : j < c.size) :
    bits .xor .u8 (bits .xor .u8 (a[j].toNat : Int) (b[j].toNat : Int)) (c[j].toNat : Int) = (((xorL (xorL a.data.toList b.data.toList) c.data.toList).getD j 0).toNat : Int) := by
  have h1 : a[j].toNat < 256 := a[j].toNat_lt
  have h2 : b[j].toNat < 256 := b[j].toNat_lt
  have h3 : c[j].toNat < 256 := c[j].toNat_lt
  have h4 : a[j].toNat ^^^ b[j].toNat < 256 := Nat.xor_lt_two_pow (n := 8) h1 h2
  have e1 : (a.data.toList)[j]? = some a[j] := by rw [List.getElem?_eq_getElem (by simpa using ha)]; rfl
  have e2 : (b.data.toList)[j]? = some b[j] := by rw [List.getElem?_eq_getElem (by simpa using hb)]; rfl
  have e3 : (c.data.toList)[j]? = some c[j] := by rw [List.getElem?_eq_getElem (by simpa using hc)]; rfl
  rw [u8_xor_nat _ _ h1 h2, u8_xor_nat _ _ h4 h3]
  simp only [xorL, List.getD, List.getElem?_zipWith, e1, e2, e3, Option.getD_some, UInt8.toNat_xor]

theorem lin_sum (x y z u : Nat) (hx : x < 2 ^ 32) (hy : y < 2 ^ 32) (hz : z < 2 ^ 32) (hu : u < 2 ^ 32) (h : x ^^^ y ^^^ z ^^^ u = 0) :
    (bits .xor .u32 (bits .xor .u32 (bits .xor .u32 (x : Int) (y : Int)) (z : Int)) (u : Int) == 0) = true := by
  have h1 := Nat.xor_lt_two_pow hx hy
  have h2 := Nat.xor_lt_two_pow h1 hz
  rw [u32_xor_nat _ _ hx hy, u32_xor_nat _ _ h1 hz, u32_xor_nat _ _ h2 hu, h]
  rfl

set_option maxHeartbeats 800000 in
theorem walk_yes (a b c : ByteArray) (w : World) (h : ¬ 4096 < (a.size : Int)) (h2 : b.size = a.size) (h3 : c.size = a.size) :
    Calls Try.prog 8 #[.string a, .string b, .string c] w fun e w' => e = .returned (.bool true) ∧ Below w.heap.size w w' := by
  have hd : decide (4096 < (a.size : Int)) = false := by simpa using h
  have hcv := fun w s => Lib.run_convert_string_bytes (P := Try.prog) w 9 25 5 s Try.underlying9 Try.underlying25 Try.underlying5
  have hmk : ∀ w, (Instr.makeSlice 25 (.int .i64 (a.size : Int)) (.int .i64 (a.size : Int))).run Try.prog w = .ok (.slice (some ⟨w.heap.size, 0, none⟩) a.size a.size) (w.alloc (.cells (zrow a.size).toArray 5)) :=
    fun w => run_mkn (P := Try.prog) 25 5 Try.underlying25 info8 a.size (by omega) w
  go_enter Try.func8, Try.ntmps8
  go_wp2_with fail
  refine (awake_any _).mono ?_
  rintro e w1 ⟨rfl, hb1⟩
  have hX : (xorL (xorL a.data.toList b.data.toList) c.data.toList).length = a.size := by simp [xorL, h2, h3]
  generalize hXe : xorL (xorL a.data.toList b.data.toList) c.data.toList = X at hX
  have hown0 : (w1.alloc (.cells (zrow a.size).toArray 5)).ownsRow w1.heap.size 5 1 (.slice (some ⟨w1.heap.size, 0, none⟩) a.size a.size) a.size (toV (xrow X a.size 0)) := by
    have h := World.ownsRow_lit (base := w1.heap.size) (e := 5) (size := 1) w1 (zrow a.size).toArray a.size (Nat.le_refl _) (by unfold maxLen; omega) (by rw [List.size_toArray, zrow_length]; omega)
    rw [xrow_zero]
    exact h
  have c0 : Below w.heap.size w (w1.alloc (.cells (zrow a.size).toArray 5)) := hb1.alloc hb1.size _
  have HX := hide hXe
  have HO := hide hown0
  clear hXe hown0
  go_wp2
  go_loopw [8] (fun i wr => ∃ j : Nat, j ≤ a.size ∧ i = .int .i64 j ∧ wr.ownsRow w1.heap.size 5 1 (.slice (some ⟨w1.heap.size, 0, none⟩) a.size a.size) a.size (toV (xrow X a.size j)) ∧ Below w.heap.size w wr) (fun i _ => a.size - (intOf i).toNat)
  case atStart => exact ⟨0, Nat.zero_le _, rfl, HO.out, c0⟩
  case round =>
    obtain ⟨j, hj, rfl, hownr, hbr⟩ := hrel
    clear HO c0 hmk
    by_cases hlt : j < a.size
    · have hcj : wr.cell? ⟨w1.heap.size, j, none⟩ = _ := (hownr.cellAt j (by omega)).trans (toV_get _ j (by rw [xrow_length _ _ _ hX hj]; exact hlt))
      have hfj : wr.frozen? ⟨w1.heap.size, j, none⟩ = false := hownr.frozenAt j
      have hjI : (j : Int) < (a.size : Int) := by omega
      have hjb : j < b.size := by omega
      have hjc : j < c.size := by omega
      clear hcv
      have hx := lin_cell a b c j hlt hjb hjc
      rw [HX.out] at hx
      have hst := (hownr.stored j (.int .u8 ((X.getD j 0).toNat : Int))).1
      rw [xrow_step X a.size j hX hlt, ← hx] at hst
      have HS := hide hst
      clear hst hx
      go_wp2
      go_region
      go_wp2
      go_roundw
      case rel => exact ⟨j + 1, by omega, by go_num, HS.out.drew, (hbr.setCell (by exact hb1.size) _).drew⟩
      case measure => simp [intOf]; omega
    · obtain rfl : j = a.size := by omega
      rw [xrow_full X _ hX] at hownr
      have hBd := hownr.isB hX
      clear hownr
      have hsum := crc_linear a.data.toList b.data.toList c.data.toList (by rw [data_length, data_length, h2]) (by rw [data_length, data_length, h3])
      rw [HX.out] at hsum
      have HL := hide (lin_sum _ _ _ _ (crc_lt _) (crc_lt _) (crc_lt _) (crc_lt _) hsum)
      clear hsum HX
      go_wp2_with fail
      refine (of_any _ _ _ a.data.toList _ (isB_conv wr _ a) (by omega)).mono ?_
      rintro e w2 ⟨rfl, rfl⟩
      have c1 := hbr.trans ((below_conv wr 5 a).mono hbr.size)
      have hBd1 := hBd.below (below_conv wr 5 a)
      clear hbr hBd
      generalize Lib.bytesWorld wr 5 a = V1 at *
      have hBb := isB_conv V1 5 b
      rw [h2] at hBb
      go_wp2_with fail
      refine (of_any _ _ _ b.data.toList _ hBb (by omega)).mono ?_
      rintro e w2 ⟨rfl, rfl⟩
      have c2 := c1.trans ((below_conv V1 5 b).mono c1.size)
      have hBd2 := hBd1.below (below_conv V1 5 b)
      clear c1 hBd1 hBb
      generalize Lib.bytesWorld V1 5 b = V2 at *
      have hBc := isB_conv V2 5 c
      rw [h3] at hBc
      go_wp2_with fail
      refine (of_any _ _ _ c.data.toList _ hBc (by omega)).mono ?_
      rintro e w2 ⟨rfl, rfl⟩
      have c3 := c2.trans ((below_conv V2 5 c).mono c2.size)
      have hBd3 := hBd2.below (below_conv V2 5 c)
      clear c2 hBd2 hBc
      generalize Lib.bytesWorld V2 5 c = V3 at *
      go_wp2_with fail
      refine (of_any _ _ _ X _ hBd3 (by omega)).mono ?_
      rintro e w2 ⟨rfl, rfl⟩
      go_wp2
      go_ret
      exact ⟨congrArg (fun x => Ending.returned (.bool x)) HL.out, c3⟩

theorem walk (a0 a1 a2 : ByteArray) (z0 : a0.size ≤ 140737488351232) (z1 : a1.size ≤ 140737488351232) (z2 : a2.size ≤ 140737488351232) (w : World) :
    Calls Try.prog 8 #[.string a0, .string a1, .string a2] w fun e w' => e = .returned (.bool true) ∧ Below w.heap.size w w' := by
  by_cases h : 4096 < (a0.size : Int)
  · exact walk_no1 a0 a1 a2 w h
  by_cases h2 : a1.size = a0.size
  · by_cases h3 : a2.size = a0.size
    · exact walk_yes a0 a1 a2 w h h2 h3
    · exact walk_no3 a0 a1 a2 w h (by rw [h2]; simp) (by rw [bne_iff_ne]; omega)
  · exact walk_no2 a0 a1 a2 w h (by rw [bne_iff_ne]; omega)
end Go.Proofs.Ytdcnfkndjjgobaa.sumLinear
