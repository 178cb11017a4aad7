/-
  The contracts of the document's modes: Right, Fits, Covers, Both, Around.
-/
import Derived.Test.YtibndgdbicfjfaaModeCode
import Derived.OpenShut
namespace Go.Proofs.Ytibndgdbicfjfaa
open Go.RowKit
set_option linter.unusedVariables false

set_option maxRecDepth 4000 in
theorem rright12 (a : Int) (w : World) :
    Calls Try.prog 10 #[.int .i64 a] w fun e w' => e = .returned (.bool (rgt a)) ∧ w = w' := by
  by_cases h1 : 1 ≤ a
  · have e : rgt a = decide (a ≤ 5) := by simp [rgt, h1]
    rw [e]
    go_enter Try.func10, Try.ntmps10
    go_wp2
    go_ret
    exact ⟨by simp, rfl⟩
  · have e : rgt a = false := by simp [rgt, h1]
    rw [e]
    go_enter Try.func10, Try.ntmps10
    go_wp2
    go_ret
    exact ⟨by simp, rfl⟩

set_option maxRecDepth 4000 in
theorem raround12 (a : Int) (w : World) :
    Calls Try.prog 18 #[.int .i64 a] w fun e w' => e = .returned (.int .i64 (arn a)) ∧ w = w' := by
  have HR := hide (fun w => rright12 a w)
  rcases cls a with rfl | rfl | rfl | rfl | rfl | h
  case inr.inr.inr.inr.inr =>
    obtain ⟨h1, h2, h3, h4, h5⟩ := no_eqs h
    have e : arn a = 0 := by simp [arn, h1, h2, h3, h4, h5]
    rw [e]
    rw [no_rgt h] at HR
    clear h e
    go_enter Try.func18, Try.ntmps18
    go_wp2_with fail
    refine (HR.out _).mono ?_
    rintro e w1 ⟨rfl, rfl⟩
    go_wp2
    go_ret
    exact ⟨rfl, rfl⟩
  all_goals
    go_enter Try.func18, Try.ntmps18
    go_wp2_with fail
    refine (HR.out _).mono ?_
    rintro e w1 ⟨rfl, rfl⟩
    go_wp2
    go_ret
    exact ⟨rfl, rfl⟩

set_option maxRecDepth 4000 in
set_option maxHeartbeats 800000 in
theorem rcovers12 (a b : Int) (w : World) :
    Calls Try.prog 14 #[.int .i64 a, .int .i64 b] w fun e w' => e = .returned (.bool (cov a b)) ∧ w = w' := by
  have HA := hide (fun w => rright12 a w)
  have HB := hide (fun w => rright12 b w)
  cases ha : rgt a with
  | false =>
    have e : cov a b = false := by simp [cov, ha]
    rw [e]
    rw [ha] at HA
    clear e ha
    go_enter Try.func14, Try.ntmps14
    go_wp2_with fail
    refine (HA.out _).mono ?_
    rintro e w1 ⟨rfl, rfl⟩
    go_wp2
    go_ret
    exact ⟨rfl, rfl⟩
  | true =>
    cases hb : rgt b with
    | false =>
      have e : cov a b = false := by simp [cov, hb]
      rw [e]
      rw [ha] at HA
      rw [hb] at HB
      clear e ha hb
      go_enter Try.func14, Try.ntmps14
      go_wp2_with fail
      refine (HA.out _).mono ?_
      rintro e w1 ⟨rfl, rfl⟩
      go_wp2_with fail
      refine (HB.out _).mono ?_
      rintro e w1 ⟨rfl, rfl⟩
      go_wp2
      go_ret
      exact ⟨rfl, rfl⟩
    | true =>
      rcases cls a with rfl | rfl | rfl | rfl | rfl | h
      case inr.inr.inr.inr.inr => exact absurd ((no_rgt h).symm.trans ha) (by decide)
      all_goals
        rcases cls b with rfl | rfl | rfl | rfl | rfl | h
        case inr.inr.inr.inr.inr => exact absurd ((no_rgt h).symm.trans hb) (by decide)
        all_goals
          rw [ha] at HA
          rw [hb] at HB
          clear ha hb
          go_enter Try.func14, Try.ntmps14
          go_wp2_with fail
          refine (HA.out _).mono ?_
          rintro e w1 ⟨rfl, rfl⟩
          go_wp2_with fail
          refine (HB.out _).mono ?_
          rintro e w1 ⟨rfl, rfl⟩
          go_wp2
          go_ret
          exact ⟨rfl, rfl⟩

set_option maxRecDepth 4000 in
set_option maxHeartbeats 1600000 in
theorem rfits12 (a b : Int) (w : World) :
    Calls Try.prog 12 #[.int .i64 a, .int .i64 b] w fun e w' => e = .returned (.bool (fit a b)) ∧ Below w.heap.size w w' := by
  have HA := hide (fun w => rright12 a w)
  have HB := hide (fun w => rright12 b w)
  cases ha : rgt a with
  | false =>
    have e : fit a b = false := by simp [fit, ha]
    rw [e]
    rw [ha] at HA
    clear e ha
    go_enter Try.func12, Try.ntmps12
    go_wp2_with fail
    refine (HA.out _).mono ?_
    rintro e w1 ⟨rfl, rfl⟩
    go_wp2
    go_ret
    exact ⟨rfl, Below.refl _ _⟩
  | true =>
    cases hb : rgt b with
    | false =>
      have e : fit a b = false := by simp [fit, hb]
      rw [e]
      rw [ha] at HA
      rw [hb] at HB
      clear e ha hb
      go_enter Try.func12, Try.ntmps12
      go_wp2_with fail
      refine (HA.out _).mono ?_
      rintro e w1 ⟨rfl, rfl⟩
      go_wp2_with fail
      refine (HB.out _).mono ?_
      rintro e w1 ⟨rfl, rfl⟩
      go_wp2
      go_ret
      exact ⟨rfl, Below.refl _ _⟩
    | true =>
      rcases cls a with rfl | rfl | rfl | rfl | rfl | h
      case inr.inr.inr.inr.inr => exact absurd ((no_rgt h).symm.trans ha) (by decide)
      all_goals
        rcases cls b with rfl | rfl | rfl | rfl | rfl | h
        case inr.inr.inr.inr.inr => exact absurd ((no_rgt h).symm.trans hb) (by decide)
        all_goals
          rw [ha] at HA
          rw [hb] at HB
          clear ha hb
          go_enter Try.func12, Try.ntmps12
          go_wp2_with fail
          refine (HA.out _).mono ?_
          rintro e w1 ⟨rfl, rfl⟩
          go_wp2_with fail
          refine (HB.out _).mono ?_
          rintro e w1 ⟨rfl, rfl⟩
          go_wp2
          go_ret
          exact ⟨rfl, (Below.refl _ _).alloc (Nat.le_refl _) _⟩
end Go.Proofs.Ytibndgdbicfjfaa
