/-
  The contract of quaysideref01.TakeText: it answers 'textS' too, over the string's bytes.
-/
import Derived.Test.YtmapgfakfeddmaaProg
import Derived.Test.YtmapgfakfeddmaaPackMath
import Derived.WalkSpells
namespace Go.Proofs.Ytmapgfakfeddmaa
open Go.RowKit
set_option linter.unusedVariables false

set_option maxHeartbeats 400000 in
theorem rttext_arg (s : ByteArray) (p : Int) (w : World) (h : p < 0) :
    Calls Try.prog 50 #[.string s, .int .i64 p] w fun e w' => e = .returned (.tuple #[.string ⟨#[]⟩, .int .i64 0, .int .i64 1]) ∧ w = w' := by
  go_enter Try.func50, Try.ntmps50
  go_wp2
  go_ret3
  exact ⟨rfl, rfl⟩

set_option maxHeartbeats 400000 in
theorem rttext_short (s : ByteArray) (p : Int) (w : World) (h : ¬ p < 0) (h2 : (s.size : Int) ≤ p) :
    Calls Try.prog 50 #[.string s, .int .i64 p] w fun e w' => e = .returned (.tuple #[.string ⟨#[]⟩, .int .i64 0, .int .i64 4]) ∧ w = w' := by
  go_enter Try.func50, Try.ntmps50
  go_wp2
  go_ret3
  exact ⟨rfl, rfl⟩

set_option maxHeartbeats 400000 in
theorem rttext_few (s : ByteArray) (p : Nat) (w : World) (hl : s.size ≤ 140737488355328) (h1 : p < s.size) (h2 : (s.size : Int) - p - 1 < (s[p].toNat : Int)) :
    Calls Try.prog 50 #[.string s, .int .i64 p] w fun e w' => e = .returned (.tuple #[.string ⟨#[]⟩, .int .i64 0, .int .i64 4]) ∧ w = w' := by
  have hm : s[p].toNat < 256 := s[p].toNat_lt
  go_enter Try.func50, Try.ntmps50
  go_wp2
  go_ret3
  exact ⟨rfl, rfl⟩

set_option maxHeartbeats 400000 in
theorem rttext_ok (s : ByteArray) (p : Nat) (w : World) (hl : s.size ≤ 140737488355328) (h1 : p < s.size) (h2 : ¬ (s.size : Int) - p - 1 < (s[p].toNat : Int)) :
    Calls Try.prog 50 #[.string s, .int .i64 p] w fun e w' => e = .returned (.tuple #[.string (s.extract (p + 1) (p + 1 + s[p].toNat)), .int .i64 ((p : Int) + 1 + (s[p].toNat : Int)), .int .i64 0]) ∧ w = w' := by
  have hm : s[p].toNat < 256 := s[p].toNat_lt
  go_enter Try.func50, Try.ntmps50
  go_wp2
  go_ret3
  exact ⟨rfl, rfl⟩

/-- THE CONTRACT. -/
theorem rttext_any (s : ByteArray) (p : Int) (w : World) (hl : s.size ≤ 140737488355328) :
    Calls Try.prog 50 #[.string s, .int .i64 p] w fun e w' => e = .returned (.tuple #[.string ⟨(textS s.data.toList p).1.toArray⟩, .int .i64 (textS s.data.toList p).2.1, .int .i64 (textS s.data.toList p).2.2]) ∧ w = w' := by
  have hs : s.data.toList.length = s.size := by simp
  by_cases h1 : p < 0
  · rw [textS_arg _ p h1]
    exact rttext_arg s p w h1
  by_cases h2 : (s.data.toList.length : Int) ≤ p
  · rw [textS_short _ p h1 h2]
    exact rttext_short s p w h1 (by omega)
  obtain ⟨pn, rfl⟩ := Int.eq_ofNat_of_zero_le (show 0 ≤ p by omega)
  have hp : pn < s.size := by omega
  have hg : (s.data.toList.getD pn 0).toNat = s[pn].toNat := by rw [getD_str s pn hp]
  by_cases h3 : pn + 1 + s[pn].toNat ≤ s.size
  · rw [textS_ok _ pn _ (by omega) hg (by omega)]
    have R := rttext_ok s pn w hl hp (by omega)
    rw [extract_eq s (pn + 1) s[pn].toNat (by omega)] at R
    exact R
  · rw [textS_few _ pn _ (by omega) hg (by omega)]
    exact rttext_few s pn w hl hp (by omega)
end Go.Proofs.Ytmapgfakfeddmaa
