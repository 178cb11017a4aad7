/-
  The contract of quaysideref01.PutText.
-/
import Derived.Test.YtbmodhclhifckaaProg
import Derived.Test.YtbmodhclhifckaaPackMath
import Derived.WalkSpells
namespace Go.Proofs.Ytbmodhclhifckaa
open Go.RowKit
set_option linter.unusedVariables false

set_option maxHeartbeats 400000 in
theorem rputtext_no (b s : ByteArray) (w : World) (h : 255 < (s.size : Int)) :
    Calls Try.prog 17 #[.string b, .string s] w fun e w' => e = .returned (.tuple #[.string ⟨#[]⟩, .int .i64 1]) ∧ w = w' := by
  go_enter Try.func17, Try.ntmps17
  go_wp2
  go_ret2
  exact ⟨rfl, rfl⟩

theorem text_str (b s : ByteArray) : b ++ ⟨#[UInt8.ofNat s.size]⟩ ++ s = ⟨(b.data.toList ++ textB s.data.toList).toArray⟩ := by
  have e1 := str_append b [UInt8.ofNat s.size]
  have e2 := mk_append (b.data.toList ++ [UInt8.ofNat s.size]) s.data.toList
  have e3 : s = ⟨s.data.toList.toArray⟩ := by
    apply ByteArray.ext
    simp
  rw [← e3] at e2
  have e4 : b.data.toList ++ textB s.data.toList = b.data.toList ++ [UInt8.ofNat s.size] ++ s.data.toList := by simp [textB]
  rw [e4, ← e2, ← e1]

set_option maxHeartbeats 400000 in
theorem rputtext_ok (b s : ByteArray) (w : World) (hb : b.size ≤ 140737488355328) (h : s.size ≤ 255) :
    Calls Try.prog 17 #[.string b, .string s] w fun e w' => e = .returned (.tuple #[.string ⟨(b.data.toList ++ textB s.data.toList).toArray⟩, .int .i64 0]) ∧ Below w.heap.size w w' := by
  have h1 : ¬ 255 < (s.size : Int) := by omega
  have hcv := run_oneByte (P := Try.prog) w 24 9 5 Try.underlying24 Try.underlying5 Try.underlying9 (s.size : Int) (UInt8.ofNat s.size) (by rw [toNat_ofNat]; omega)
  have s1 : (⟨#[UInt8.ofNat s.size]⟩ : ByteArray).size = 1 := rfl
  have s2 : (b ++ ⟨#[UInt8.ofNat s.size]⟩).size = b.size + 1 := by rw [ByteArray.size_append, s1]
  go_enter Try.func17, Try.ntmps17
  go_wp2
  go_ret2
  exact ⟨by rw [← text_str]; rfl, (Below.refl _ _).alloc (Nat.le_refl _) _⟩
end Go.Proofs.Ytbmodhclhifckaa
