/-
  The contracts of the code's Chop and Crash.
-/
import Derived.Test.YtkdlmblkckmhaabTapeApp
namespace Go.Proofs.Ytkdlmblkckmhaab
open Go.RowKit
set_option linter.unusedVariables false

/-- A tape of which the first bytes are left alone. -/
theorem TpV.first {w : World} {gt gb cap : Nat} {a : Option Addr} {t : Tp} (h : TpV w gt gb cap a t) (n : Nat) (hn : n ≤ t.b.size) : TpV (w.setCell ⟨gt, 0, none⟩ (.slice a n cap)) gt gb cap a { t with b := t.b.extract 0 n } := by
  have hz : (t.b.extract 0 n).size = n := by rw [ByteArray.size_extract]; omega
  have hd : (t.b.extract 0 n).data.toList = t.b.data.toList.take n := by
    have e := extract_eq t.b 0 n (by omega)
    rw [Nat.zero_add] at e
    rw [e]
    simp
  refine ⟨?_, ?_, h.2.2⟩
  · show RowAt _ gt _ #[.slice a (t.b.extract 0 n).size cap, _, _, _]
    rw [hz]
    exact RowAt.set h.1 0 _
  · show World.ownsRow _ 0 _ 1 (.slice a (t.b.extract 0 n).size cap) (t.b.extract 0 n).size (toV (t.b.extract 0 n).data.toList)
    rw [hz, hd]
    rcases h.own with ⟨rfl, _, h2, rfl⟩ | ⟨rfl, h2, h3, h4, h5, cur, h6, h7, h8⟩
    · obtain rfl : n = 0 := by omega
      exact World.ownsRow_nil _ _ _ _
    · refine ⟨by rw [toV_length, List.length_take, data_length]; omega, .inr ⟨gb, cap, cur, rfl, Nat.zero_le _, (heap_setCell_other w ⟨gt, 0, none⟩ gb _ (fun e => h2 e.symm)).trans h6, by omega, h5, by simpa using h7, ?_⟩⟩
      rw [Nat.mul_one]
      have e : toV (t.b.data.toList.take n) = (toV t.b.data.toList).take n := by simp [toV, List.map_take]
      rw [e, ← h8, List.take_take]
      congr 1
      omega

end Go.Proofs.Ytkdlmblkckmhaab
