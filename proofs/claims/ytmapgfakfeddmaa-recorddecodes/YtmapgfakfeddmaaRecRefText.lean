/-
  The contracts of quaysideref06's num and text.
-/
import Derived.Test.YtmapgfakfeddmaaRecLoad
import Derived.Test.YtmapgfakfeddmaaPackRefNumber
namespace Go.Proofs.Ytmapgfakfeddmaa
open Go.RowKit
set_option linter.unusedVariables false

/-- Bytes as a text. -/
def mkS (l : List UInt8) : ByteArray := ⟨l.toArray⟩
theorem mkS_append (a b : List UInt8) : mkS a ++ mkS b = mkS (a ++ b) := mk_append a b
theorem mkS_size (l : List UInt8) : (mkS l).size = l.length := size_mk l

theorem run_add_s (a b : ByteArray) (h : a.size + b.size ≤ 100000) (x : World) : (binOp .add 9 (.string a) (.string b)).run Try.prog x = .ok (.string (a ++ b)) x := by
  simp [binOp, Op.stringOp]
  omega
theorem add_guard (x y : Operand) (a b : ByteArray) (w : World) : (eqGuard .add 9 x y (.string a) (.string b)).run Try.prog w = .ok () w := by
  simp [eqGuard]

set_option maxHeartbeats 400000 in
theorem num6_any (k n : Nat) (w : World) (hk : k ≤ 8) (hn : n < 18446744073709551616) :
    Calls Try.prog 37 #[.int .i64 (k : Int), .int .u64 (n : Int)] w fun e w' => e = .returned (.string (mkS (beB k n))) ∧ Below w.heap.size w w' := by
  have HN := hide (number_any k n w hk hn)
  go_enter Try.func37, Try.ntmps37
  go_wp2_with fail
  refine HN.out.mono ?_
  rintro e w1 ⟨rfl, hb⟩
  clear HN
  go_wp2
  go_ret
  exact ⟨rfl, hb⟩

set_option maxHeartbeats 400000 in
theorem text6_any (s : ByteArray) (w : World) (hs : s.size ≤ 255) :
    Calls Try.prog 38 #[.string s] w fun e w' => e = .returned (.string (mkS (textB s.data.toList))) ∧ Below w.heap.size w w' := by
  have HN := hide (num6_any 1 s.size w (by omega) (by omega))
  have ez : mkS (beB 1 s.size) ++ s = mkS (textB s.data.toList) := by
    have e1 : s = mkS s.data.toList := (mk_self s).symm
    have e2 : beB 1 s.size = [UInt8.ofNat s.size] := by
      unfold beB
      simp
    conv => lhs; rhs; rw [e1]
    rw [mkS_append, e2]
    unfold textB
    rw [data_length]
    rfl
  have HZ := hide ez
  have z1 := mkS_size (beB 1 s.size)
  rw [beB_length] at z1
  clear ez
  have hw : IntKind.u64.wrap (s.size : Int) = (s.size : Int) := by rw [IntKind.wrap_u64]; omega
  generalize mkS (beB 1 s.size) = t at *
  go_enter Try.func38, Try.ntmps38
  go_wp2_with fail
  refine HN.out.mono ?_
  rintro e w1 ⟨rfl, hb⟩
  clear HN
  go_wp2
  go_ret
  exact ⟨by rw [← HZ.out]; rfl, hb⟩
end Go.Proofs.Ytmapgfakfeddmaa
