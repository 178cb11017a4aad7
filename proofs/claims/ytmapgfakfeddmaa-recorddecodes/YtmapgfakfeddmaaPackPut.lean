/-
  The contracts of pack.Fits, pack.longer, pack.Put.
-/
import Derived.Test.YtmapgfakfeddmaaInfo8
import Derived.Test.YtmapgfakfeddmaaPackMath
import Derived.WalkSpells
import Derived.Laws.CopyOwn
namespace Go.Proofs.Ytmapgfakfeddmaa
open Go.RowKit
set_option linter.unusedVariables false

set_option maxHeartbeats 400000 in
theorem fits_no1 (k n : Int) (w : World) (h : k < 1) :
    Calls Try.prog 51 #[.int .i64 k, .int .u64 n] w fun e w' => e = .returned (.bool false) ∧ w = w' := by
  have h1 : ¬ (1 : Int) ≤ k := by omega
  go_enter Try.func51, Try.ntmps51
  go_wp2
  go_ret
  exact ⟨rfl, rfl⟩

set_option maxHeartbeats 400000 in
theorem fits_no2 (k n : Int) (w : World) (h : 8 < k) :
    Calls Try.prog 51 #[.int .i64 k, .int .u64 n] w fun e w' => e = .returned (.bool false) ∧ w = w' := by
  have h1 : (1 : Int) ≤ k := by omega
  have h2 : ¬ k ≤ 8 := by omega
  go_enter Try.func51, Try.ntmps51
  go_wp2
  go_ret
  exact ⟨rfl, rfl⟩

set_option maxHeartbeats 400000 in
theorem fits_yes (k n : Nat) (w : World) (h1 : 1 ≤ k) (h2 : k ≤ 8) (hn : n < 18446744073709551616) :
    Calls Try.prog 51 #[.int .i64 k, .int .u64 n] w fun e w' => e = .returned (.bool (decide (n < 256 ^ k))) ∧ w = w' := by
  have h3 : (1 : Int) ≤ (k : Int) := by omega
  have h4 : (k : Int) ≤ 8 := by omega
  go_enter Try.func51, Try.ntmps51
  go_wp2
  go_ret
  exact ⟨by rw [← shr_zero n k]; rfl, rfl⟩

theorem fits_true (k n : Nat) (w : World) (h1 : 1 ≤ k) (h2 : k ≤ 8) (hn : n < 256 ^ k) :
    Calls Try.prog 51 #[.int .i64 k, .int .u64 n] w fun e w' => e = .returned (.bool true) ∧ w = w' := by
  have F := fits_yes k n w h1 h2 (Nat.lt_of_lt_of_le hn (pow256_le k h2))
  rwa [decide_eq_true hn] at F

theorem fits_false (k n : Int) (w : World) (h : k < 1 ∨ 8 < k ∨ (256 : Int) ^ k.toNat ≤ n) (h0 : 0 ≤ n) (hn : n < 18446744073709551616) :
    Calls Try.prog 51 #[.int .i64 k, .int .u64 n] w fun e w' => e = .returned (.bool false) ∧ w = w' := by
  by_cases h1 : k < 1
  · exact fits_no1 k n w h1
  by_cases h2 : 8 < k
  · exact fits_no2 k n w h2
  obtain ⟨kn, rfl⟩ := Int.eq_ofNat_of_zero_le (show 0 ≤ k by omega)
  obtain ⟨nn, rfl⟩ := Int.eq_ofNat_of_zero_le h0
  have h3 : (256 : Int) ^ kn ≤ (nn : Int) := by rcases h with h | h | h <;> first | omega | exact h
  have h4 : ((256 ^ kn : Nat) : Int) ≤ (nn : Int) := by simpa using h3
  have F := fits_yes kn nn w (by omega) (by omega) (by omega)
  rwa [decide_eq_false (show ¬ nn < 256 ^ kn by omega)] at F


set_option maxHeartbeats 400000 in
theorem longer_any (a : Option Addr) (len cap m : Nat) (bs : List UInt8) (w : World) (hB : IsB w a len bs) (hl : len + m ≤ 281474976710656) :
    Calls Try.prog 52 #[.slice a len cap, .int .i64 m] w fun e w' => e = .returned (.slice (some ⟨w.heap.size, 0, none⟩) len (len + m)) ∧
      w'.ownsRow w.heap.size 5 1 (.slice (some ⟨w.heap.size, 0, none⟩) len (len + m)) len (toV bs) ∧ Below w.heap.size w w' := by
  have hmk := run_mk (P := Try.prog) 30 5 Try.underlying30 info8 len m hl
  have hrow : (w.alloc (.cells (zrow (len + m)).toArray 5)).heap[w.heap.size]? = some (.cells (zrow (len + m)).toArray 5 (0, 0)) := heap_alloc_new w _
  go_enter Try.func52, Try.ntmps52
  go_wp2_with (refine wpList_copy_splice rfl (.tmp 13) (.tmp 14) 30 30 rfl 5 Try.underlying30 info8s (some ⟨w.heap.size, 0, none⟩) a len (len + m) len cap rfl rfl w.heap.size 0 (zrow (len + m)) 5 hrow (toV bs) (by rw [toV_length, hB.1]; exact (Nat.min_self _).symm) (hB.hpos _ _) (by rw [toV_length, zrow_length, hB.1]; omega) (toV_one bs) w.heap.size w ((Below.refl _ _).alloc (Nat.le_refl _) _) (Nat.le_refl _) ?_)
  intro w2 HG hb2
  go_wp2
  go_ret
  exact ⟨rfl, owns_spliced hB.1 (Nat.le_refl _) hl HG.out, hb2⟩

set_option maxHeartbeats 400000 in
theorem put_ok (a : Option Addr) (len cap k n : Nat) (bs : List UInt8) (w : World) (hB : IsB w a len bs) (hl : len + 8 ≤ 281474976710656) (h1 : 1 ≤ k) (h2 : k ≤ 8) (hn : n < 256 ^ k) :
    Calls Try.prog 35 #[.slice a len cap, .int .i64 k, .int .u64 n] w fun e w' => e = .returned (.tuple #[.slice (some ⟨w.heap.size, 0, none⟩) (len + k) (len + k), .int .i64 0]) ∧
      w'.ownsRow w.heap.size 5 1 (.slice (some ⟨w.heap.size, 0, none⟩) (len + k) (len + k)) (len + k) (toV (bs ++ beB k n)) ∧ Below w.heap.size w w' := by
  have hn2 : n < 18446744073709551616 := Nat.lt_of_lt_of_le hn (pow256_le k h2)
  obtain ⟨i0, hi, hz0, hz1, hz2⟩ := info_parts info8
  go_enter Try.func35, Try.ntmps35
  go_wp2_with fail
  refine (fits_true k n _ h1 h2 hn).mono ?_
  rintro e w1 ⟨rfl, rfl⟩
  go_wp2_with fail
  refine (longer_any a len cap k bs _ hB (by omega)).mono ?_
  rintro e w1 ⟨rfl, hown, hbel⟩
  go_wp2
  go_loopw [8, 18] (fun v i wr => ∃ j : Nat, j ≤ k ∧ i = .int .i64 j ∧ v = .slice (some ⟨w.heap.size, 0, none⟩) (len + j) (len + k) ∧ wr.ownsRow w.heap.size 5 1 (.slice (some ⟨w.heap.size, 0, none⟩) (len + j) (len + k)) (len + j) (toV (bs ++ (beB k n).take j)) ∧ Below w.heap.size w wr) (fun _ i _ => k - (intOf i).toNat)
  case atStart => exact ⟨0, Nat.zero_le _, rfl, rfl, by simpa using hown, hbel⟩
  case round =>
    obtain ⟨j, hj, rfl, rfl, hownr, hbr⟩ := hrel
    clear hown hbel
    by_cases hlt : j < k
    · go_wp2_with (at_builtin; refine wpList_append_fits _ rfl (.tmp 21) (.tmp 30) 30 rfl w.heap.size 5 i0 1 Try.underlying30 hi hz1 w.heap.size (len + j) (len + k) _ rfl (hownr.alloc _) ⟨wr.heap.size, 0, none⟩ 1 1 [.int .u8 ((n : Int) / 2 ^ (8 * (k - 1 - j)) % 256)] rfl rfl (cell_one_new _ _ _) (by simp [Value.oneCell']) (by omega) ?_)
      intro w2 hown2 hgr
      rw [byte_at] at hown2
      have hown3 := put_row hown2 (beB_take k n j hlt)
      have hb3 : Below w.heap.size w w2 := (hbr.alloc hbr.size _).grown hgr (by simp; have := hbr.size; omega) (by simp)
      clear hown2 hgr hownr
      go_wp2
      go_roundw
      case rel => exact ⟨j + 1, by omega, by go_num, by simp [Nat.add_assoc], hown3, hb3⟩
      case measure => simp [intOf]; omega
    · go_wp2
      go_ret2
      obtain rfl : j = k := by omega
      exact ⟨rfl, by simpa [List.take_of_length_le, beB_length] using hownr, hbr⟩

set_option maxHeartbeats 400000 in
theorem put_no (a : Option Addr) (len cap : Nat) (k n : Int) (w : World) (h : k < 1 ∨ 8 < k ∨ (256 : Int) ^ k.toNat ≤ n) (h0 : 0 ≤ n) (hn : n < 18446744073709551616) :
    Calls Try.prog 35 #[.slice a len cap, .int .i64 k, .int .u64 n] w fun e w' => e = .returned (.tuple #[.slice none 0 0, .int .i64 1]) ∧ w = w' := by
  have H : Hid (k < 1 ∨ 8 < k ∨ (256 : Int) ^ k.toNat ≤ n) := h
  clear h
  go_enter Try.func35, Try.ntmps35
  go_wp2_with fail
  refine (fits_false k n _ H.out h0 hn).mono ?_
  rintro e w1 ⟨rfl, rfl⟩
  go_wp2
  go_ret2
  exact ⟨rfl, rfl⟩
end Go.Proofs.Ytmapgfakfeddmaa
