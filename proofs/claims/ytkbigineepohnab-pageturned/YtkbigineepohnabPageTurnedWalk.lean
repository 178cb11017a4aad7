/-
  The walk of PageTurned: it returns true, and turns nothing that was there.
-/
import Derived.Test.YtkbigineepohnabPageAwake
import Derived.Test.YtkbigineepohnabPageDec
import Derived.Test.YtkbigineepohnabPageKept
import Derived.Test.YtkbigineepohnabPageTurnMath
import Derived.OpenShut
namespace Go.Proofs.Ytkbigineepohnab.pageTurned
open Go.RowKit
set_option linter.unusedVariables false

set_option maxRecDepth 4000 in
set_option maxHeartbeats 400000 in
theorem walk_none (id : Int) (p : Pg) (b c : Bool) (n : Int) (w : World) :
    Calls Try.prog 3 #[.int .i64 id, .agg (pgA p), .bool b, .bool c, .int .u64 n, .int .u32 0] w fun e w' => e = .returned (.bool true) ∧ Below w.heap.size w w' := by
  have hb0 : Below w.heap.size w (w.alloc (.cells (pgA p) 27)) := (Below.refl _ _).alloc (Nat.le_refl _) _
  go_enter Try.func3, Try.ntmps3
  go_wp2_with fail
  refine (awake_any _).mono ?_
  rintro e w1 ⟨rfl, hb1⟩
  go_wp2_with fail
  refine (awake_any _).mono ?_
  rintro e w2 ⟨rfl, hb2⟩
  have c1 := hb0.trans (hb1.mono hb0.size)
  go_wp2
  go_ret
  exact ⟨rfl, c1.trans (hb2.mono c1.size)⟩

theorem tb (t j : Nat) (ht : t < 2 ^ 32) : (bits .and .u32 ((t : Int) / 2 ^ j) 1 == 1) = t.testBit j := by
  have e : (t : Int) / 2 ^ j = ((t / 2 ^ j : Nat) : Int) := by simp
  have hl : t / 2 ^ j < 4294967296 := Nat.lt_of_le_of_lt (Nat.div_le_self _ _) ht
  have e1 : (1 : Int) = ((1 : Nat) : Int) := rfl
  rw [e, e1, u32_and_nat _ _ hl (by omega), nat_mask1, Nat.testBit_eq_decide_div_mod_eq]
  generalize t / 2 ^ j = q
  rw [Bool.eq_iff_iff]
  simp only [beq_iff_eq, decide_eq_true_eq]
  omega

theorem flip_cell (x : UInt8) (r : Nat) (hr : r < 8) : bits .xor .u8 (x.toNat : Int) ((2 : Int) ^ r % 256) = ((x ^^^ UInt8.ofNat (2 ^ r)).toNat : Int) := by
  have hp : 2 ^ r < 256 := Nat.pow_lt_pow_right (a := 2) (m := r) (n := 8) (by omega) hr
  have e1 : (2 : Int) ^ r % 256 = ((2 ^ r : Nat) : Int) := by
    have e2 : (2 : Int) ^ r = ((2 ^ r : Nat) : Int) := by simp
    rw [e2]
    exact Int.emod_eq_of_lt (Int.natCast_nonneg _) (Int.ofNat_lt.2 hp)
  rw [e1, u8_xor_nat _ _ x.toNat_lt hp, UInt8.toNat_xor, toNat_ofNat, Nat.mod_eq_of_lt hp]

theorem toV_set (L : List UInt8) (q : Nat) (y : UInt8) : (toV L).set q (.int .u8 (y.toNat : Int)) = toV (L.set q y) := by simp [toV, List.map_set]
theorem own_cap {w : World} {base n cap size : Nat} {e : TypeId} {a : Option Addr} {xs : List Value} (h : w.ownsRow base e size (.slice a n cap) n xs) : n ≤ cap := by
  rcases h.2 with ⟨hv, h0⟩ | ⟨g, cap', cur, hv, _, _, hn, _⟩
  · omega
  · injection hv with _ _ h3
    omega

set_option maxRecDepth 4000 in
set_option maxHeartbeats 3200000 in
theorem walk_ff (id : Int) (p : Pg) (n t : Nat) (w : World) (hn : n < 18446744073709551616) (ht : t < 2 ^ 32) (h0 : t ≠ 0) :
    Calls Try.prog 3 #[.int .i64 id, .agg (pgA p), .bool false, .bool false, .int .u64 n, .int .u32 t] w fun e w' => e = .returned (.bool true) ∧ Below w.heap.size w w' := by
  have ht0 : ((t : Int) == 0) = false := by simpa using h0
  have HP : Hid (Kept w.heap.size w w.heap.size p (w.alloc (.cells (pgA p) 27))) := ⟨heap_alloc_new w _, (Below.refl _ _).alloc (Nat.le_refl _) _, Nat.le_refl _⟩
  obtain ⟨k, hk, hkle⟩ : ∃ k : Nat, (n : Int) % 929 = (k : Int) ∧ k < 929 := ⟨n % 929, (Int.natCast_emod n 929).symm, Nat.mod_lt _ (by omega)⟩
  go_enter Try.func3, Try.ntmps3
  go_wp2_with fail
  refine gen_calls (fun x => Hid (Kept w.heap.size w w.heap.size p x)) HP ?_
  clear HP
  intro w0 HP
  refine (awake_any _).mono ?_
  rintro e w1 ⟨rfl, hb1⟩
  have HP1 := hide (HP.out.later hb1)
  clear HP hb1
  go_wp2_with (refine wpList_load_page rfl _ rfl w.heap.size rfl p HP1.out.1 ?_)
  refine (enc_any id p _).mono ?_
  rintro e w2 ⟨v, rfl, hown2, hb2⟩
  have c2 := (HP1.out.later hb2).2.1
  have hbase : w.heap.size ≤ w1.heap.size := HP1.out.2.1.size
  clear HP1 hb2
  by_cases h1 : 0 ≤ id ∧ id ≤ 31 ∧ p.right
  · rw [enc_yes id p h1] at hown2 ⊢
    simp only at hown2 ⊢
    rw [imageB_length _ _ h1.2.2] at hown2
    obtain ⟨a, cap, hv, hg⟩ := own_slice hown2 (by omega)
    rw [hv] at hown2 ⊢
    have hgw : w.heap.size ≤ a := Nat.le_trans hbase hg
    have hSl := imageB_length id.toNat p h1.2.2
    have DEC := dec_sums id (fl (imageB id.toNat p) (64 + k) t 32) ⟨h1.1, h1.2.1⟩ (by rw [fl_length]; exact hSl) (turned_sum id.toNat p h1.2.2 k t ht h0 (by omega) false)
    have HD := hide DEC
    clear DEC h1 hv hg hbase
    generalize imageB id.toNat p = S at *
    go_wp2
    clear hk
    go_loopw [18] (fun i wr => ∃ j : Nat, j ≤ 32 ∧ i = .int .i64 j ∧ wr.ownsRow w1.heap.size 5 1 (.slice (some ⟨a, 0, none⟩) 256 cap) 256 (toV (fl S (64 + k) t j)) ∧ Below w.heap.size w wr) (fun i _ => 32 - (intOf i).toNat)
    case atStart => exact ⟨0, Nat.zero_le _, rfl, hown2, c2⟩
    case round =>
      obtain ⟨j, hj, rfl, hownr, hbr⟩ := hrel
      clear hown2 c2
      by_cases hlt : j < 32
      · have e8 : (64 + k + j) / 8 = 8 + (k + j) / 8 := by omega
        have e9 : (64 + k + j) % 8 = (k + j) % 8 := by omega
        have hq : 8 + (k + j) / 8 < 256 := by omega
        have hfl : (fl S (64 + k) t j).length = 256 := by rw [fl_length]; exact hSl
        have hcj : wr.cell? ⟨a, 8 + (k + j) / 8, none⟩ = some (.int .u8 (((fl S (64 + k) t j).getD (8 + (k + j) / 8) 0).toNat : Int)) := (hownr.cellAt (8 + (k + j) / 8) (by omega)).trans (toV_get _ (8 + (k + j) / 8) (by rw [hfl]; exact hq))
        have hfs : fl S (64 + k) t (j + 1) = if t.testBit j then (fl S (64 + k) t j).set ((64 + k + j) / 8) ((fl S (64 + k) t j).getD ((64 + k + j) / 8) 0 ^^^ UInt8.ofNat (2 ^ ((64 + k + j) % 8))) else fl S (64 + k) t j := rfl
        rw [e8, e9] at hfs
        generalize (fl S (64 + k) t j).getD (8 + (k + j) / 8) 0 = x at hcj hfs
        have HF := hide hfs
        have HT := hide (tb t j ht)
        clear hfs hfl e8 e9
        have hfj : wr.frozen? ⟨a, 8 + (k + j) / 8, none⟩ = false := hownr.frozenAt _
        go_wp2
        · have hbit : t.testBit j = true := by rw [← HT.out]; assumption
          have hst := (hownr.stored (8 + (k + j) / 8) (.int .u8 ((x ^^^ UInt8.ofNat (2 ^ ((k + j) % 8))).toNat : Int))).1
          have hfs := HF.out
          rw [if_pos hbit] at hfs
          rw [toV_set, ← hfs, ← flip_cell x ((k + j) % 8) (by omega)] at hst
          go_roundw
          case rel => exact ⟨j + 1, by omega, by go_num, hst, hbr.setCell (by exact hgw) _⟩
          case measure => simp [intOf]; omega
        · have hbit : t.testBit j = false := by rw [← HT.out]; assumption
          have hfs := HF.out
          rw [hbit] at hfs
          have hfe : fl S (64 + k) t (j + 1) = fl S (64 + k) t j := hfs
          go_roundw
          case rel => exact ⟨j + 1, by omega, by go_num, by rw [hfe]; exact hownr, hbr⟩
          case measure => simp [intOf]; omega
      · obtain rfl : j = 32 := by omega
        have hB := hownr.isB (by rw [fl_length]; exact hSl)
        have E := dec_any id (some ⟨a, 0, none⟩) 256 cap _ wr hB (by omega) (own_cap hownr)
        rw [HD.out] at E
        generalize decP id (fl S (64 + k) t 32) = q at E
        have HE := hide E
        clear E hB hownr HD
        go_wp2_with fail
        refine HE.out.mono ?_
        rintro e w4 ⟨rfl, hb4⟩
        have c4 := hbr.trans (hb4.mono hbr.size)
        clear HE hb4 hbr
        go_wp2_with (refine wpList_store_page rfl _ _ rfl w4.heap.size Pg.zero q rfl rfl (show PgAt _ w4.heap.size Pg.zero from heap_alloc_new w4 _) ?_)
        intro w5 hP5 hk5
        have c5 := hk5 _ _ (c4.alloc c4.size _) c4.size
        clear hP5 hk5 c4
        go_wp2
        go_ret
        exact ⟨rfl, c5⟩
  · obtain ⟨a2, cap2, hv, hcap2, hB2⟩ := shape_isB hown2
    rw [hv]
    clear hown2 hv
    rw [enc_no id p h1]
    clear hB2 hcap2 h1 hk
    go_wp2
    go_ret
    exact ⟨rfl, c2⟩

set_option maxRecDepth 4000 in
set_option maxHeartbeats 3200000 in
theorem walk_ft (id : Int) (p : Pg) (n t : Nat) (w : World) (hn : n < 18446744073709551616) (ht : t < 2 ^ 32) (h0 : t ≠ 0) :
    Calls Try.prog 3 #[.int .i64 id, .agg (pgA p), .bool false, .bool true, .int .u64 n, .int .u32 t] w fun e w' => e = .returned (.bool true) ∧ Below w.heap.size w w' := by
  have ht0 : ((t : Int) == 0) = false := by simpa using h0
  have HP : Hid (Kept w.heap.size w w.heap.size p (w.alloc (.cells (pgA p) 27))) := ⟨heap_alloc_new w _, (Below.refl _ _).alloc (Nat.le_refl _) _, Nat.le_refl _⟩
  obtain ⟨k, hk, hkle⟩ : ∃ k : Nat, (n : Int) % 33 = (k : Int) ∧ k < 33 := ⟨n % 33, (Int.natCast_emod n 33).symm, Nat.mod_lt _ (by omega)⟩
  go_enter Try.func3, Try.ntmps3
  go_wp2_with fail
  refine gen_calls (fun x => Hid (Kept w.heap.size w w.heap.size p x)) HP ?_
  clear HP
  intro w0 HP
  refine (awake_any _).mono ?_
  rintro e w1 ⟨rfl, hb1⟩
  have HP1 := hide (HP.out.later hb1)
  clear HP hb1
  go_wp2_with (refine wpList_load_page rfl _ rfl w.heap.size rfl p HP1.out.1 ?_)
  refine (enc_any id p _).mono ?_
  rintro e w2 ⟨v, rfl, hown2, hb2⟩
  have c2 := (HP1.out.later hb2).2.1
  have hbase : w.heap.size ≤ w1.heap.size := HP1.out.2.1.size
  clear HP1 hb2
  by_cases h1 : 0 ≤ id ∧ id ≤ 31 ∧ p.right
  · rw [enc_yes id p h1] at hown2 ⊢
    simp only at hown2 ⊢
    rw [imageB_length _ _ h1.2.2] at hown2
    obtain ⟨a, cap, hv, hg⟩ := own_slice hown2 (by omega)
    rw [hv] at hown2 ⊢
    have hgw : w.heap.size ≤ a := Nat.le_trans hbase hg
    have hSl := imageB_length id.toNat p h1.2.2
    have DEC := dec_torn id (fl (imageB id.toNat p) (0 + k) t 32) ⟨h1.1, h1.2.1⟩ (turned_torn id.toNat p h1.2.2 k t ht h0 (by omega) false)
    have HD := hide DEC
    clear DEC h1 hv hg hbase
    generalize imageB id.toNat p = S at *
    go_wp2
    clear hk
    go_loopw [18] (fun i wr => ∃ j : Nat, j ≤ 32 ∧ i = .int .i64 j ∧ wr.ownsRow w1.heap.size 5 1 (.slice (some ⟨a, 0, none⟩) 256 cap) 256 (toV (fl S (0 + k) t j)) ∧ Below w.heap.size w wr) (fun i _ => 32 - (intOf i).toNat)
    case atStart => exact ⟨0, Nat.zero_le _, rfl, hown2, c2⟩
    case round =>
      obtain ⟨j, hj, rfl, hownr, hbr⟩ := hrel
      clear hown2 c2
      by_cases hlt : j < 32
      · have e8 : (0 + k + j) / 8 = (k + j) / 8 := by omega
        have e9 : (0 + k + j) % 8 = (k + j) % 8 := by omega
        have hq : (k + j) / 8 < 256 := by omega
        have hfl : (fl S (0 + k) t j).length = 256 := by rw [fl_length]; exact hSl
        have hcj : wr.cell? ⟨a, (k + j) / 8, none⟩ = some (.int .u8 (((fl S (0 + k) t j).getD ((k + j) / 8) 0).toNat : Int)) := (hownr.cellAt ((k + j) / 8) (by omega)).trans (toV_get _ ((k + j) / 8) (by rw [hfl]; exact hq))
        have hfs : fl S (0 + k) t (j + 1) = if t.testBit j then (fl S (0 + k) t j).set ((0 + k + j) / 8) ((fl S (0 + k) t j).getD ((0 + k + j) / 8) 0 ^^^ UInt8.ofNat (2 ^ ((0 + k + j) % 8))) else fl S (0 + k) t j := rfl
        rw [e8, e9] at hfs
        generalize (fl S (0 + k) t j).getD ((k + j) / 8) 0 = x at hcj hfs
        have HF := hide hfs
        have HT := hide (tb t j ht)
        clear hfs hfl e8 e9
        have hfj : wr.frozen? ⟨a, (k + j) / 8, none⟩ = false := hownr.frozenAt _
        go_wp2
        · have hbit : t.testBit j = true := by rw [← HT.out]; assumption
          have hst := (hownr.stored ((k + j) / 8) (.int .u8 ((x ^^^ UInt8.ofNat (2 ^ ((k + j) % 8))).toNat : Int))).1
          have hfs := HF.out
          rw [if_pos hbit] at hfs
          rw [toV_set, ← hfs, ← flip_cell x ((k + j) % 8) (by omega)] at hst
          go_roundw
          case rel => exact ⟨j + 1, by omega, by go_num, hst, hbr.setCell (by exact hgw) _⟩
          case measure => simp [intOf]; omega
        · have hbit : t.testBit j = false := by rw [← HT.out]; assumption
          have hfs := HF.out
          rw [hbit] at hfs
          have hfe : fl S (0 + k) t (j + 1) = fl S (0 + k) t j := hfs
          go_roundw
          case rel => exact ⟨j + 1, by omega, by go_num, by rw [hfe]; exact hownr, hbr⟩
          case measure => simp [intOf]; omega
      · obtain rfl : j = 32 := by omega
        have hB := hownr.isB (by rw [fl_length]; exact hSl)
        have E := dec_any id (some ⟨a, 0, none⟩) 256 cap _ wr hB (by omega) (own_cap hownr)
        rw [HD.out] at E
        generalize decP id (fl S (0 + k) t 32) = q at E
        have HE := hide E
        clear E hB hownr HD
        go_wp2_with fail
        refine HE.out.mono ?_
        rintro e w4 ⟨rfl, hb4⟩
        have c4 := hbr.trans (hb4.mono hbr.size)
        clear HE hb4 hbr
        go_wp2_with (refine wpList_store_page rfl _ _ rfl w4.heap.size Pg.zero q rfl rfl (show PgAt _ w4.heap.size Pg.zero from heap_alloc_new w4 _) ?_)
        intro w5 hP5 hk5
        have c5 := hk5 _ _ (c4.alloc c4.size _) c4.size
        clear hP5 hk5 c4
        go_wp2
        go_ret
        exact ⟨rfl, c5⟩
  · obtain ⟨a2, cap2, hv, hcap2, hB2⟩ := shape_isB hown2
    rw [hv]
    clear hown2 hv
    rw [enc_no id p h1]
    clear hB2 hcap2 h1 hk
    go_wp2
    go_ret
    exact ⟨rfl, c2⟩

set_option maxRecDepth 4000 in
set_option maxHeartbeats 3200000 in
theorem walk_tf (id : Int) (p : Pg) (n t : Nat) (w : World) (hn : n < 18446744073709551616) (ht : t < 2 ^ 32) (h0 : t ≠ 0) :
    Calls Try.prog 3 #[.int .i64 id, .agg (pgA p), .bool true, .bool false, .int .u64 n, .int .u32 t] w fun e w' => e = .returned (.bool true) ∧ Below w.heap.size w w' := by
  have ht0 : ((t : Int) == 0) = false := by simpa using h0
  have HP : Hid (Kept w.heap.size w w.heap.size p (w.alloc (.cells (pgA p) 27))) := ⟨heap_alloc_new w _, (Below.refl _ _).alloc (Nat.le_refl _) _, Nat.le_refl _⟩
  obtain ⟨k, hk, hkle⟩ : ∃ k : Nat, (n : Int) % 929 = (k : Int) ∧ k < 929 := ⟨n % 929, (Int.natCast_emod n 929).symm, Nat.mod_lt _ (by omega)⟩
  go_enter Try.func3, Try.ntmps3
  go_wp2_with fail
  refine gen_calls (fun x => Hid (Kept w.heap.size w w.heap.size p x)) HP ?_
  clear HP
  intro w0 HP
  refine (awake_any _).mono ?_
  rintro e w1 ⟨rfl, hb1⟩
  have HP1 := hide (HP.out.later hb1)
  clear HP hb1
  go_wp2_with (refine wpList_load_page rfl _ rfl w.heap.size rfl p HP1.out.1 ?_)
  refine (enc_any id p _).mono ?_
  rintro e w2 ⟨v, rfl, hown2, hb2⟩
  have c2 := (HP1.out.later hb2).2.1
  have hbase : w.heap.size ≤ w1.heap.size := HP1.out.2.1.size
  clear HP1 hb2
  by_cases h1 : 0 ≤ id ∧ id ≤ 31 ∧ p.right
  · rw [enc_yes id p h1] at hown2 ⊢
    simp only at hown2 ⊢
    rw [imageB_length _ _ h1.2.2] at hown2
    obtain ⟨a, cap, hv, hg⟩ := own_slice hown2 (by omega)
    rw [hv] at hown2 ⊢
    have hgw : w.heap.size ≤ a := Nat.le_trans hbase hg
    have hSl := imageB_length id.toNat p h1.2.2
    have DEC := dec_sums id (fl (imageB id.toNat p) (1088 + k) t 32) ⟨h1.1, h1.2.1⟩ (by rw [fl_length]; exact hSl) (turned_sum id.toNat p h1.2.2 k t ht h0 (by omega) true)
    have HD := hide DEC
    clear DEC h1 hv hg hbase
    generalize imageB id.toNat p = S at *
    go_wp2
    clear hk
    go_loopw [18] (fun i wr => ∃ j : Nat, j ≤ 32 ∧ i = .int .i64 j ∧ wr.ownsRow w1.heap.size 5 1 (.slice (some ⟨a, 0, none⟩) 256 cap) 256 (toV (fl S (1088 + k) t j)) ∧ Below w.heap.size w wr) (fun i _ => 32 - (intOf i).toNat)
    case atStart => exact ⟨0, Nat.zero_le _, rfl, hown2, c2⟩
    case round =>
      obtain ⟨j, hj, rfl, hownr, hbr⟩ := hrel
      clear hown2 c2
      by_cases hlt : j < 32
      · have e8 : (1088 + k + j) / 8 = 136 + (k + j) / 8 := by omega
        have e9 : (1088 + k + j) % 8 = (k + j) % 8 := by omega
        have hq : 136 + (k + j) / 8 < 256 := by omega
        have hfl : (fl S (1088 + k) t j).length = 256 := by rw [fl_length]; exact hSl
        have hcj : wr.cell? ⟨a, 136 + (k + j) / 8, none⟩ = some (.int .u8 (((fl S (1088 + k) t j).getD (136 + (k + j) / 8) 0).toNat : Int)) := (hownr.cellAt (136 + (k + j) / 8) (by omega)).trans (toV_get _ (136 + (k + j) / 8) (by rw [hfl]; exact hq))
        have hfs : fl S (1088 + k) t (j + 1) = if t.testBit j then (fl S (1088 + k) t j).set ((1088 + k + j) / 8) ((fl S (1088 + k) t j).getD ((1088 + k + j) / 8) 0 ^^^ UInt8.ofNat (2 ^ ((1088 + k + j) % 8))) else fl S (1088 + k) t j := rfl
        rw [e8, e9] at hfs
        generalize (fl S (1088 + k) t j).getD (136 + (k + j) / 8) 0 = x at hcj hfs
        have HF := hide hfs
        have HT := hide (tb t j ht)
        clear hfs hfl e8 e9
        have hfj : wr.frozen? ⟨a, 136 + (k + j) / 8, none⟩ = false := hownr.frozenAt _
        go_wp2
        · have hbit : t.testBit j = true := by rw [← HT.out]; assumption
          have hst := (hownr.stored (136 + (k + j) / 8) (.int .u8 ((x ^^^ UInt8.ofNat (2 ^ ((k + j) % 8))).toNat : Int))).1
          have hfs := HF.out
          rw [if_pos hbit] at hfs
          rw [toV_set, ← hfs, ← flip_cell x ((k + j) % 8) (by omega)] at hst
          go_roundw
          case rel => exact ⟨j + 1, by omega, by go_num, hst, hbr.setCell (by exact hgw) _⟩
          case measure => simp [intOf]; omega
        · have hbit : t.testBit j = false := by rw [← HT.out]; assumption
          have hfs := HF.out
          rw [hbit] at hfs
          have hfe : fl S (1088 + k) t (j + 1) = fl S (1088 + k) t j := hfs
          go_roundw
          case rel => exact ⟨j + 1, by omega, by go_num, by rw [hfe]; exact hownr, hbr⟩
          case measure => simp [intOf]; omega
      · obtain rfl : j = 32 := by omega
        have hB := hownr.isB (by rw [fl_length]; exact hSl)
        have E := dec_any id (some ⟨a, 0, none⟩) 256 cap _ wr hB (by omega) (own_cap hownr)
        rw [HD.out] at E
        generalize decP id (fl S (1088 + k) t 32) = q at E
        have HE := hide E
        clear E hB hownr HD
        go_wp2_with fail
        refine HE.out.mono ?_
        rintro e w4 ⟨rfl, hb4⟩
        have c4 := hbr.trans (hb4.mono hbr.size)
        clear HE hb4 hbr
        go_wp2_with (refine wpList_store_page rfl _ _ rfl w4.heap.size Pg.zero q rfl rfl (show PgAt _ w4.heap.size Pg.zero from heap_alloc_new w4 _) ?_)
        intro w5 hP5 hk5
        have c5 := hk5 _ _ (c4.alloc c4.size _) c4.size
        clear hP5 hk5 c4
        go_wp2
        go_ret
        exact ⟨rfl, c5⟩
  · obtain ⟨a2, cap2, hv, hcap2, hB2⟩ := shape_isB hown2
    rw [hv]
    clear hown2 hv
    rw [enc_no id p h1]
    clear hB2 hcap2 h1 hk
    go_wp2
    go_ret
    exact ⟨rfl, c2⟩

set_option maxRecDepth 4000 in
set_option maxHeartbeats 3200000 in
theorem walk_tt (id : Int) (p : Pg) (n t : Nat) (w : World) (hn : n < 18446744073709551616) (ht : t < 2 ^ 32) (h0 : t ≠ 0) :
    Calls Try.prog 3 #[.int .i64 id, .agg (pgA p), .bool true, .bool true, .int .u64 n, .int .u32 t] w fun e w' => e = .returned (.bool true) ∧ Below w.heap.size w w' := by
  have ht0 : ((t : Int) == 0) = false := by simpa using h0
  have HP : Hid (Kept w.heap.size w w.heap.size p (w.alloc (.cells (pgA p) 27))) := ⟨heap_alloc_new w _, (Below.refl _ _).alloc (Nat.le_refl _) _, Nat.le_refl _⟩
  obtain ⟨k, hk, hkle⟩ : ∃ k : Nat, (n : Int) % 33 = (k : Int) ∧ k < 33 := ⟨n % 33, (Int.natCast_emod n 33).symm, Nat.mod_lt _ (by omega)⟩
  go_enter Try.func3, Try.ntmps3
  go_wp2_with fail
  refine gen_calls (fun x => Hid (Kept w.heap.size w w.heap.size p x)) HP ?_
  clear HP
  intro w0 HP
  refine (awake_any _).mono ?_
  rintro e w1 ⟨rfl, hb1⟩
  have HP1 := hide (HP.out.later hb1)
  clear HP hb1
  go_wp2_with (refine wpList_load_page rfl _ rfl w.heap.size rfl p HP1.out.1 ?_)
  refine (enc_any id p _).mono ?_
  rintro e w2 ⟨v, rfl, hown2, hb2⟩
  have c2 := (HP1.out.later hb2).2.1
  have hbase : w.heap.size ≤ w1.heap.size := HP1.out.2.1.size
  clear HP1 hb2
  by_cases h1 : 0 ≤ id ∧ id ≤ 31 ∧ p.right
  · rw [enc_yes id p h1] at hown2 ⊢
    simp only at hown2 ⊢
    rw [imageB_length _ _ h1.2.2] at hown2
    obtain ⟨a, cap, hv, hg⟩ := own_slice hown2 (by omega)
    rw [hv] at hown2 ⊢
    have hgw : w.heap.size ≤ a := Nat.le_trans hbase hg
    have hSl := imageB_length id.toNat p h1.2.2
    have DEC := dec_torn id (fl (imageB id.toNat p) (1024 + k) t 32) ⟨h1.1, h1.2.1⟩ (turned_torn id.toNat p h1.2.2 k t ht h0 (by omega) true)
    have HD := hide DEC
    clear DEC h1 hv hg hbase
    generalize imageB id.toNat p = S at *
    go_wp2
    clear hk
    go_loopw [18] (fun i wr => ∃ j : Nat, j ≤ 32 ∧ i = .int .i64 j ∧ wr.ownsRow w1.heap.size 5 1 (.slice (some ⟨a, 0, none⟩) 256 cap) 256 (toV (fl S (1024 + k) t j)) ∧ Below w.heap.size w wr) (fun i _ => 32 - (intOf i).toNat)
    case atStart => exact ⟨0, Nat.zero_le _, rfl, hown2, c2⟩
    case round =>
      obtain ⟨j, hj, rfl, hownr, hbr⟩ := hrel
      clear hown2 c2
      by_cases hlt : j < 32
      · have e8 : (1024 + k + j) / 8 = 128 + (k + j) / 8 := by omega
        have e9 : (1024 + k + j) % 8 = (k + j) % 8 := by omega
        have hq : 128 + (k + j) / 8 < 256 := by omega
        have hfl : (fl S (1024 + k) t j).length = 256 := by rw [fl_length]; exact hSl
        have hcj : wr.cell? ⟨a, 128 + (k + j) / 8, none⟩ = some (.int .u8 (((fl S (1024 + k) t j).getD (128 + (k + j) / 8) 0).toNat : Int)) := (hownr.cellAt (128 + (k + j) / 8) (by omega)).trans (toV_get _ (128 + (k + j) / 8) (by rw [hfl]; exact hq))
        have hfs : fl S (1024 + k) t (j + 1) = if t.testBit j then (fl S (1024 + k) t j).set ((1024 + k + j) / 8) ((fl S (1024 + k) t j).getD ((1024 + k + j) / 8) 0 ^^^ UInt8.ofNat (2 ^ ((1024 + k + j) % 8))) else fl S (1024 + k) t j := rfl
        rw [e8, e9] at hfs
        generalize (fl S (1024 + k) t j).getD (128 + (k + j) / 8) 0 = x at hcj hfs
        have HF := hide hfs
        have HT := hide (tb t j ht)
        clear hfs hfl e8 e9
        have hfj : wr.frozen? ⟨a, 128 + (k + j) / 8, none⟩ = false := hownr.frozenAt _
        go_wp2
        · have hbit : t.testBit j = true := by rw [← HT.out]; assumption
          have hst := (hownr.stored (128 + (k + j) / 8) (.int .u8 ((x ^^^ UInt8.ofNat (2 ^ ((k + j) % 8))).toNat : Int))).1
          have hfs := HF.out
          rw [if_pos hbit] at hfs
          rw [toV_set, ← hfs, ← flip_cell x ((k + j) % 8) (by omega)] at hst
          go_roundw
          case rel => exact ⟨j + 1, by omega, by go_num, hst, hbr.setCell (by exact hgw) _⟩
          case measure => simp [intOf]; omega
        · have hbit : t.testBit j = false := by rw [← HT.out]; assumption
          have hfs := HF.out
          rw [hbit] at hfs
          have hfe : fl S (1024 + k) t (j + 1) = fl S (1024 + k) t j := hfs
          go_roundw
          case rel => exact ⟨j + 1, by omega, by go_num, by rw [hfe]; exact hownr, hbr⟩
          case measure => simp [intOf]; omega
      · obtain rfl : j = 32 := by omega
        have hB := hownr.isB (by rw [fl_length]; exact hSl)
        have E := dec_any id (some ⟨a, 0, none⟩) 256 cap _ wr hB (by omega) (own_cap hownr)
        rw [HD.out] at E
        generalize decP id (fl S (1024 + k) t 32) = q at E
        have HE := hide E
        clear E hB hownr HD
        go_wp2_with fail
        refine HE.out.mono ?_
        rintro e w4 ⟨rfl, hb4⟩
        have c4 := hbr.trans (hb4.mono hbr.size)
        clear HE hb4 hbr
        go_wp2_with (refine wpList_store_page rfl _ _ rfl w4.heap.size Pg.zero q rfl rfl (show PgAt _ w4.heap.size Pg.zero from heap_alloc_new w4 _) ?_)
        intro w5 hP5 hk5
        have c5 := hk5 _ _ (c4.alloc c4.size _) c4.size
        clear hP5 hk5 c4
        go_wp2
        go_ret
        exact ⟨rfl, c5⟩
  · obtain ⟨a2, cap2, hv, hcap2, hB2⟩ := shape_isB hown2
    rw [hv]
    clear hown2 hv
    rw [enc_no id p h1]
    clear hB2 hcap2 h1 hk
    go_wp2
    go_ret
    exact ⟨rfl, c2⟩

theorem walk (a0 : Int) (p : Pg) (sec st : Bool) (a4 a5 : Int) (w : World) (w0 : (Lit.int .i64 a0).wf = true) (hp : p.fits) (w4 : (Lit.int .u64 a4).wf = true) (w5 : (Lit.int .u32 a5).wf = true) :
    Calls Try.prog 3 #[.int .i64 a0, .agg (pgA p), .bool sec, .bool st, .int .u64 a4, .int .u32 a5] w fun e w' => e = .returned (.bool true) ∧ Below w.heap.size w w' := by
  have b4 := bounds_u64 w4
  have b5 := bounds_u32 w5
  by_cases h0 : a5 = 0
  · subst h0
    exact walk_none a0 p sec st a4 w
  · obtain ⟨n, rfl⟩ := Int.eq_ofNat_of_zero_le b4.1
    obtain ⟨t, rfl⟩ := Int.eq_ofNat_of_zero_le b5.1
    cases sec <;> cases st
    · exact walk_ff a0 p n t w (by omega) (by omega) (by omega)
    · exact walk_ft a0 p n t w (by omega) (by omega) (by omega)
    · exact walk_tf a0 p n t w (by omega) (by omega) (by omega)
    · exact walk_tt a0 p n t w (by omega) (by omega) (by omega)
end Go.Proofs.Ytkbigineepohnab.pageTurned
