/-
  The contract of pack.TakeText: of any bytes, at any place it answers 'textS', and turns nothing.
-/
import Derived.Test.YtmapgfakfeddmaaPackTake
namespace Go.Proofs.Ytmapgfakfeddmaa
open Go.RowKit
set_option linter.unusedVariables false

theorem take_one (b off len cap p : Nat) (bs : List UInt8) (m : Nat) (w : World) (hl : len ≤ 9223372036854775807) (hb : bs.length = len)
    (hc : ∀ j, j < len → w.cell? ⟨b, off + j, none⟩ = some (.int .u8 ((bs.getD j 0).toNat : Int))) (h1 : p < len) (hm : (bs.getD p 0).toNat = m) :
    Calls Try.prog 59 #[.slice (some ⟨b, off, none⟩) len cap, .int .i64 p, .int .i64 1] w fun e w' => e = .returned (.tuple #[.int .u64 m, .int .i64 0]) ∧ w = w' := by
  have T := take_ok b off len cap bs p 1 w hl (by omega) (by omega) (by omega) hb hc
  have e : beAt bs p 1 = m := by
    have e1 : beAt bs p 1 = beAt bs p 0 * 256 + (bs.getD p 0).toNat := beAt_succ bs p 0 (by omega)
    rw [beAt_zero, hm] at e1
    omega
  rw [e] at T
  exact T

set_option maxHeartbeats 400000 in
theorem ttext_ok (b off len cap p : Nat) (bs : List UInt8) (m : Nat) (w : World) (hl : len ≤ 9223372036854775807) (hcap : len ≤ cap) (hb : bs.length = len)
    (hc : ∀ j, j < len → w.cell? ⟨b, off + j, none⟩ = some (.int .u8 ((bs.getD j 0).toNat : Int))) (hbl : b < w.heap.size) (h1 : p < len) (hm : (bs.getD p 0).toNat = m) (h2 : p + 1 + m ≤ len) :
    Calls Try.prog 63 #[.slice (some ⟨b, off, none⟩) len cap, .int .i64 p] w fun e w' => e = .returned (.tuple #[.string ⟨((bs.drop (p + 1)).take m).toArray⟩, .int .i64 ((p : Int) + 1 + (m : Int)), .int .i64 0]) ∧ w = w' := by
  have T := take_one b off len cap p bs m w hl hb hc h1 hm
  have HT : Hid (Calls Try.prog 59 #[.slice (some ⟨b, off, none⟩) len cap, .int .i64 p, .int .i64 1] w fun e w' => e = .returned (.tuple #[.int .u64 m, .int .i64 0]) ∧ w = w') := T
  clear T
  have hm2 : m < 256 := by rw [← hm]; exact (bs.getD p 0).toNat_lt
  have hcv := run_toString (P := Try.prog) w 30 9 5 Try.underlying30 Try.underlying5 Try.underlying9 (some ⟨b, off + (p + 1), none⟩) m (cap - (p + 1)) _ (IsB.cut hb hbl hc (p + 1) m h2)
  have hcv0 := run_toString (P := Try.prog) w 30 9 5 Try.underlying30 Try.underlying5 Try.underlying9 (some ⟨b, off, none⟩) 0 0 _ (IsB.none_left w _)
  clear hm
  by_cases hcp : cap = p + 1
  · obtain rfl : m = 0 := by omega
    obtain rfl : len = p + 1 := by omega
    subst hcp
    clear hcv
    go_enter Try.func63, Try.ntmps63
    go_wp2_with fail
    refine HT.out.mono ?_
    rintro e w1 ⟨rfl, rfl⟩
    go_wp2
    go_ret3
    exact ⟨by simp, rfl⟩
  · clear hcv0
    go_enter Try.func63, Try.ntmps63
    go_wp2_with fail
    refine HT.out.mono ?_
    rintro e w1 ⟨rfl, rfl⟩
    go_wp2
    go_ret3
    exact ⟨rfl, rfl⟩

set_option maxHeartbeats 400000 in
theorem ttext_few (b off len cap p : Nat) (bs : List UInt8) (m : Nat) (w : World) (hl : len ≤ 9223372036854775807) (hb : bs.length = len)
    (hc : ∀ j, j < len → w.cell? ⟨b, off + j, none⟩ = some (.int .u8 ((bs.getD j 0).toNat : Int))) (h1 : p < len) (hm : (bs.getD p 0).toNat = m) (h2 : len < p + 1 + m) :
    Calls Try.prog 63 #[.slice (some ⟨b, off, none⟩) len cap, .int .i64 p] w fun e w' => e = .returned (.tuple #[.string ⟨#[]⟩, .int .i64 0, .int .i64 4]) ∧ w = w' := by
  have T := take_one b off len cap p bs m w hl hb hc h1 hm
  have HT : Hid (Calls Try.prog 59 #[.slice (some ⟨b, off, none⟩) len cap, .int .i64 p, .int .i64 1] w fun e w' => e = .returned (.tuple #[.int .u64 m, .int .i64 0]) ∧ w = w') := T
  clear T
  have hm2 : m < 256 := by rw [← hm]; exact (bs.getD p 0).toNat_lt
  clear hm
  go_enter Try.func63, Try.ntmps63
  go_wp2_with fail
  refine HT.out.mono ?_
  rintro e w1 ⟨rfl, rfl⟩
  go_wp2
  go_ret3
  exact ⟨rfl, rfl⟩

set_option maxHeartbeats 400000 in
theorem ttext_err (a : Option Addr) (len cap : Nat) (p : Int) (x : Int) (w : World) (hx : (x != 0) = true)
    (HT : Hid (Calls Try.prog 59 #[.slice a len cap, .int .i64 p, .int .i64 1] w fun e w' => e = .returned (.tuple #[.int .u64 0, .int .i64 x]) ∧ w = w')) :
    Calls Try.prog 63 #[.slice a len cap, .int .i64 p] w fun e w' => e = .returned (.tuple #[.string ⟨#[]⟩, .int .i64 0, .int .i64 x]) ∧ w = w' := by
  go_enter Try.func63, Try.ntmps63
  go_wp2_with fail
  refine HT.out.mono ?_
  rintro e w1 ⟨rfl, rfl⟩
  go_wp2
  go_ret3
  exact ⟨rfl, rfl⟩

/-- THE CONTRACT. -/
theorem ttext_any (a : Option Addr) (len cap : Nat) (bs : List UInt8) (p : Int) (w : World) (hB : IsB w a len bs) (hl : len ≤ 9223372036854775807) (hcap : len ≤ cap) (hp : p ≤ 9223372036854775807) :
    Calls Try.prog 63 #[.slice a len cap, .int .i64 p] w fun e w' => e = .returned (.tuple #[.string ⟨(textS bs p).1.toArray⟩, .int .i64 (textS bs p).2.1, .int .i64 (textS bs p).2.2]) ∧ w = w' := by
  have hb := hB.1
  by_cases h1 : p < 0
  · rw [textS_arg bs p h1]
    exact ttext_err a len cap p 1 w (by decide) (take_arg3 a len cap p 1 w (by omega) (by omega) h1)
  by_cases h2 : (bs.length : Int) ≤ p
  · rw [textS_short bs p h1 h2]
    exact ttext_err a len cap p 4 w (by decide) (take_short a len cap p 1 w hl hp (by omega) (by omega) (by omega) (by omega))
  obtain ⟨pn, rfl⟩ := Int.eq_ofNat_of_zero_le (show 0 ≤ p by omega)
  obtain ⟨b, off, rfl, hbl, hc⟩ := hB.2 (by omega)
  by_cases h3 : pn + 1 + (bs.getD pn 0).toNat ≤ len
  · rw [textS_ok bs pn _ (by omega) rfl (by omega)]
    exact ttext_ok b off len cap pn bs _ w hl hcap hb hc hbl (by omega) rfl h3
  · rw [textS_few bs pn _ (by omega) rfl (by omega)]
    exact ttext_few b off len cap pn bs _ w hl hb hc (by omega) rfl (by omega)
end Go.Proofs.Ytmapgfakfeddmaa
