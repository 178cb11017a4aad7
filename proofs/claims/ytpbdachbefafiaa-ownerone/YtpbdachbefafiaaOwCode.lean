/-
  The contracts of package owner's small functions.
-/
import Derived.Test.YtpbdachbefafiaaOwMem
import Derived.Test.YtpbdachbefafiaaPackMath
import Derived.Test.YtpbdachbefafiaaProg
import Derived.Deep.QuietTactic
import Derived.BigQuiet
import Derived.BigRegion
namespace Go.Proofs.Ytpbdachbefafiaa
open Go.RowKit
set_option linter.unusedVariables false

abbrev DC (w : World) (g gr : Nat) (d : Dr) : Prop := DAt 51 68 w g gr d
section
variable {w : World} {g gr : Nat} {d : Dr}
set_option maxRecDepth 4000 in
set_option maxHeartbeats 400000 in
theorem size14 (h : DC w g gr d) : Calls Try.prog 30 #[.pointer (some ⟨g, 0, none⟩)] w fun e w' => e = .returned (.int .i64 (d.n : Int)) ∧ w = w' := by
  obtain ⟨cap, c0, _⟩ := h.head
  clear h
  go_enter Try.func30, Try.ntmps30
  go_wp2
  go_ret
  exact ⟨rfl, rfl⟩
set_option maxRecDepth 4000 in
set_option maxHeartbeats 400000 in
theorem isNode14 (x : Int) : Calls Try.prog 32 #[.int .i64 x] w fun e w' => e = .returned (.bool (isNd x)) ∧ w = w' := by
  unfold isNd
  by_cases h1 : 0 ≤ x
  · by_cases h2 : x < 8
    · have e1 : decide (0 ≤ x) = true := by simpa using h1
      have e2 : decide (x < 8) = true := by simpa using h2
      rw [e1, e2]
      go_enter Try.func32, Try.ntmps32
      go_wp2
      go_ret
      exact ⟨rfl, rfl⟩
    · have e1 : decide (0 ≤ x) = true := by simpa using h1
      have e2 : decide (x < 8) = false := by simpa using h2
      rw [e1, e2]
      go_enter Try.func32, Try.ntmps32
      go_wp2
      go_ret
      exact ⟨rfl, rfl⟩
  · have e1 : decide (0 ≤ x) = false := by simpa using h1
    rw [e1]
    go_enter Try.func32, Try.ntmps32
    go_wp2
    go_ret
    exact ⟨rfl, rfl⟩
set_option maxRecDepth 4000 in
set_option maxHeartbeats 800000 in
theorem at14 (p : Int) (h : DC w g gr d) : Calls Try.prog 31 #[.pointer (some ⟨g, 0, none⟩), .int .i64 p] w fun e w' => e = .returned (.pointer ((d.ix p).map fun i => ⟨gr, i * 2, none⟩)) ∧ w = w' := by
  have HS := hide (size14 h)
  obtain ⟨cap, c0, hc, hc2⟩ := h.head
  have h32 := h.few
  clear h
  cases e : d.ix p with
  | some i =>
    obtain ⟨rfl, hi⟩ := Dr.ix_some e
    have i1 : (i : Int) < d.n := by omega
    have i2 : ¬ (i : Int) < 0 := by omega
    have i3 : ¬ (d.n : Int) ≤ i := by omega
    have i4 : ¬ d.n ≤ i := by omega
    clear e
    go_enter Try.func31, Try.ntmps31
    go_wp2_with fail
    refine HS.out.mono ?_
    rintro e w1 ⟨rfl, rfl⟩
    go_wp2
    go_ret
    exact ⟨rfl, rfl⟩
  | none =>
    have hn := Dr.ix_none e
    clear e
    by_cases h0 : p < 0
    · clear hn
      go_enter Try.func31, Try.ntmps31
      go_wp2
      go_ret
      exact ⟨rfl, rfl⟩
    · have h1 : (d.n : Int) ≤ p := by omega
      clear hn
      go_enter Try.func31, Try.ntmps31
      go_wp2_with fail
      refine HS.out.mono ?_
      rintro e w1 ⟨rfl, rfl⟩
      go_wp2
      go_ret
      exact ⟨rfl, rfl⟩
end
end Go.Proofs.Ytpbdachbefafiaa
