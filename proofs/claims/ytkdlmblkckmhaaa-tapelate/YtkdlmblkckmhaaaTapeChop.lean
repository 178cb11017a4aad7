/-
  The contracts of the code's Chop and Crash.
-/
import Derived.Test.YtkdlmblkckmhaaaTapeApp
namespace Go.Proofs.Ytkdlmblkckmhaaa
open Go.RowKit
set_option linter.unusedVariables false

/-- A tape of which the first bytes are left alone. -/
theorem TpV.first {w : World} {gt gb cap : Nat} {a : Option Addr} {t : Tp} (h : TpV w gt gb cap a t) (n : Nat) (hn : n ≤ t.b.size) : TpV (w.setCell ⟨gt, 0, none⟩ (.slice a n cap)) gt gb cap a { t with b := t.b.extract 0 n } := by
  have hz : (t.b.extract 0 n).size = n := by rw [ByteArray.size_extract]; omega
  have hd : (t.b.extract 0 n).data.toList = t.b.data.toList.take n := by
    have e := extract_eq t.b 0 n (by omega)
    rw [Nat.zero_add] at e
    rw [e]
    simp
  refine ⟨?_, ?_, h.2.2⟩
  · show RowAt _ gt _ #[.slice a (t.b.extract 0 n).size cap, _, _, _]
    rw [hz]
    exact RowAt.set h.1 0 _
  · show World.ownsRow _ 0 _ 1 (.slice a (t.b.extract 0 n).size cap) (t.b.extract 0 n).size (toV (t.b.extract 0 n).data.toList)
    rw [hz, hd]
    rcases h.own with ⟨rfl, _, h2, rfl⟩ | ⟨rfl, h2, h3, h4, h5, cur, h6, h7, h8⟩
    · obtain rfl : n = 0 := by omega
      exact World.ownsRow_nil _ _ _ _
    · refine ⟨by rw [toV_length, List.length_take, data_length]; omega, .inr ⟨gb, cap, cur, rfl, Nat.zero_le _, (heap_setCell_other w ⟨gt, 0, none⟩ gb _ (fun e => h2 e.symm)).trans h6, by omega, h5, by simpa using h7, ?_⟩⟩
      rw [Nat.mul_one]
      have e : toV (t.b.data.toList.take n) = (toV t.b.data.toList).take n := by simp [toV, List.map_take]
      rw [e, ← h8, List.take_take]
      congr 1
      omega

set_option maxRecDepth 4000 in
set_option maxHeartbeats 800000 in
theorem chop8_no (gt gb : Nat) (t : Tp) (n : Int) (w : World) (h : TpAt w gt gb t) (hn : n < 0 ∨ (t.b.size : Int) < n) :
    Calls Try.prog 21 #[.pointer (some ⟨gt, 0, none⟩), .int .i64 n] w fun e w' => e = .returned (.int .i64 1) ∧ w = w' := by
  obtain ⟨cap, a, h⟩ := h
  have c0 := h.1.cell 0 _ rfl
  clear h
  by_cases h1 : n < 0
  · clear hn
    go_enter Try.func21, Try.ntmps21
    go_wp2
    go_ret
    exact ⟨rfl, rfl⟩
  · have h2 : (t.b.size : Int) < n := by omega
    clear hn
    go_enter Try.func21, Try.ntmps21
    go_wp2
    go_ret
    exact ⟨rfl, rfl⟩

set_option maxRecDepth 4000 in
set_option maxHeartbeats 800000 in
theorem chop8_yes (gt gb : Nat) (t : Tp) (n : Nat) (w : World) (h : TpAt w gt gb t) (ok : t.ok) (hn : n ≤ t.b.size) :
    Calls Try.prog 21 #[.pointer (some ⟨gt, 0, none⟩), .int .i64 (n : Int)] w fun e w' => e = .returned (.int .i64 0) ∧ TpAt w' gt gb ⟨t.b.extract 0 n, min t.f n, t.m, t.s⟩ ∧ Turn gt gb w w' := by
  obtain ⟨cap, a, h⟩ := h
  have H := hide h
  have c0 := h.1.cell 0 _ rfl
  have c1 := h.1.cell 1 _ rfl
  have f0 := h.1.free 0
  have f1 := h.1.free 1
  have hz := ok.few
  have hy := ok.room
  have hx := ok.fast
  have hcap : t.b.size ≤ cap := by
    rcases h.own with ⟨_, _, h2, _⟩ | ⟨_, _, _, h2, _⟩ <;> omega
  have h1 : ¬ (n : Int) < 0 := by omega
  have h2 : ¬ (t.b.size : Int) < (n : Int) := by omega
  have h3 : (n : Int) ≤ (cap : Int) := by omega
  clear h ok
  go_enter Try.func21, Try.ntmps21
  go_wp2
  all_goals
    go_ret
    exact ⟨rfl, ⟨cap, a, (H.out.first n hn).setf _ _ (by omega)⟩, ((Turn.refl gt gb w).set 0 _).set 1 _⟩
theorem chop8_any (gt gb : Nat) (t : Tp) (n : Int) (w : World) (h : TpAt w gt gb t) (ok : t.ok) :
    Calls Try.prog 21 #[.pointer (some ⟨gt, 0, none⟩), .int .i64 n] w fun e w' => e = .returned (.int .i64 (t.chop n).2) ∧ TpAt w' gt gb (t.chop n).1 ∧ Turn gt gb w w' := by
  unfold Tp.chop
  by_cases hn : n < 0 ∨ (t.b.size : Int) < n
  · rw [if_pos hn]
    refine (chop8_no gt gb t n w h hn).mono ?_
    rintro e w' ⟨rfl, rfl⟩
    exact ⟨rfl, h, Turn.refl _ _ _⟩
  · rw [if_neg hn]
    obtain ⟨m, rfl⟩ := Int.eq_ofNat_of_zero_le (show 0 ≤ n by omega)
    exact chop8_yes gt gb t m w h ok (by omega)
end Go.Proofs.Ytkdlmblkckmhaaa
