/-
  The contracts of package mode: Right, Fits, Covers, Both, Around; and the statements' awake.
-/
import Derived.Test.YtmlbghloddiflaaModeMath
import Derived.Test.YtmlbghloddiflaaPackMath
import Derived.Test.YtmlbghloddiflaaProg
import Derived.Deep.QuietTactic
import Derived.BigQuiet
namespace Go.Proofs.Ytmlbghloddiflaa
set_option linter.unusedVariables false

theorem no_eqs {x : Int} (h : x < 1 ∨ 5 < x) : (x == 1) = false ∧ (x == 2) = false ∧ (x == 3) = false ∧ (x == 4) = false ∧ (x == 5) = false := by
  refine ⟨?_, ?_, ?_, ?_, ?_⟩ <;> (simp; omega)

set_option maxRecDepth 4000 in
theorem right12 (a : Int) (w : World) :
    Calls Try.prog 16 #[.int .i64 a] w fun e w' => e = .returned (.bool (rgt a)) ∧ w = w' := by
  by_cases h1 : 1 ≤ a
  · have e : rgt a = decide (a ≤ 5) := by simp [rgt, h1]
    rw [e]
    go_enter Try.func16, Try.ntmps16
    go_wp2
    go_ret
    exact ⟨by simp, rfl⟩
  · have e : rgt a = false := by simp [rgt, h1]
    rw [e]
    go_enter Try.func16, Try.ntmps16
    go_wp2
    go_ret
    exact ⟨by simp, rfl⟩

set_option maxRecDepth 4000 in
set_option maxHeartbeats 800000 in
theorem covers12 (a b : Int) (w : World) :
    Calls Try.prog 26 #[.int .i64 a, .int .i64 b] w fun e w' => e = .returned (.bool (cov a b)) ∧ w = w' := by
  have HA := hide (fun w => right12 a w)
  have HB := hide (fun w => right12 b w)
  cases ha : rgt a with
  | false =>
    have e : cov a b = false := by simp [cov, ha]
    rw [e]
    rw [ha] at HA
    clear e ha
    go_enter Try.func26, Try.ntmps26
    go_wp2_with fail
    refine (HA.out _).mono ?_
    rintro e w1 ⟨rfl, rfl⟩
    go_wp2
    go_ret
    exact ⟨rfl, rfl⟩
  | true =>
    cases hb : rgt b with
    | false =>
      have e : cov a b = false := by simp [cov, hb]
      rw [e]
      rw [ha] at HA
      rw [hb] at HB
      clear e ha hb
      go_enter Try.func26, Try.ntmps26
      go_wp2_with fail
      refine (HA.out _).mono ?_
      rintro e w1 ⟨rfl, rfl⟩
      go_wp2_with fail
      refine (HB.out _).mono ?_
      rintro e w1 ⟨rfl, rfl⟩
      go_wp2
      go_ret
      exact ⟨rfl, rfl⟩
    | true =>
      rcases cls a with rfl | rfl | rfl | rfl | rfl | h
      case inr.inr.inr.inr.inr => exact absurd ((no_rgt h).symm.trans ha) (by decide)
      all_goals
        rcases cls b with rfl | rfl | rfl | rfl | rfl | h
        case inr.inr.inr.inr.inr => exact absurd ((no_rgt h).symm.trans hb) (by decide)
        all_goals
          rw [ha] at HA
          rw [hb] at HB
          clear ha hb
          go_enter Try.func26, Try.ntmps26
          go_wp2_with fail
          refine (HA.out _).mono ?_
          rintro e w1 ⟨rfl, rfl⟩
          go_wp2_with fail
          refine (HB.out _).mono ?_
          rintro e w1 ⟨rfl, rfl⟩
          go_wp2
          go_ret
          exact ⟨rfl, rfl⟩

set_option maxRecDepth 4000 in
set_option maxHeartbeats 800000 in
theorem fits12 (a b : Int) (w : World) :
    Calls Try.prog 18 #[.int .i64 a, .int .i64 b] w fun e w' => e = .returned (.bool (fit a b)) ∧ w = w' := by
  have HB := hide (fun w => right12 b w)
  rcases cls a with rfl | rfl | rfl | rfl | rfl | h
  case inr.inr.inr.inr.inr =>
    obtain ⟨h1, h2, h3, h4, h5⟩ := no_eqs h
    have e : fit a b = false := by simp [fit, no_rgt h]
    rw [e]
    clear h e
    go_enter Try.func18, Try.ntmps18
    go_wp2
    go_ret
    exact ⟨rfl, rfl⟩
  case inl =>
    rcases cls b with rfl | rfl | rfl | rfl | rfl | h
    case inr.inr.inr.inr.inr =>
      have e : fit 1 b = false := by simp [fit, no_rgt h]
      rw [e]
      rw [no_rgt h] at HB
      clear h e
      go_enter Try.func18, Try.ntmps18
      go_wp2_with fail
      refine (HB.out _).mono ?_
      rintro e w1 ⟨rfl, rfl⟩
      go_wp2
      go_ret
      exact ⟨rfl, rfl⟩
    all_goals
      go_enter Try.func18, Try.ntmps18
      go_wp2_with fail
      refine (HB.out _).mono ?_
      rintro e w1 ⟨rfl, rfl⟩
      go_wp2
      go_ret
      exact ⟨rfl, rfl⟩
  all_goals
    rcases cls b with rfl | rfl | rfl | rfl | rfl | h
    case inr.inr.inr.inr.inr =>
      obtain ⟨h1, h2, h3, h4, h5⟩ := no_eqs h
      have e : ∀ a, fit a b = false := fun a => by simp [fit, no_rgt h]
      rw [e]
      clear h e
      go_enter Try.func18, Try.ntmps18
      go_wp2
      go_ret
      exact ⟨rfl, rfl⟩
    all_goals
      go_enter Try.func18, Try.ntmps18
      go_wp2
      go_ret
      exact ⟨rfl, rfl⟩

set_option maxRecDepth 4000 in
set_option maxHeartbeats 800000 in
theorem both12 (a b : Int) (w : World) :
    Calls Try.prog 45 #[.int .i64 a, .int .i64 b] w fun e w' => e = .returned (.int .i64 (bth a b)) ∧ w = w' := by
  have HA := hide (fun w => right12 a w)
  have HB := hide (fun w => right12 b w)
  have H1 := hide (fun w => covers12 a b w)
  have H2 := hide (fun w => covers12 b a w)
  unfold bth
  cases h1 : cov a b with
  | true =>
    rw [h1] at H1
    clear h1
    go_enter Try.func45, Try.ntmps45
    go_wp2_with fail
    refine (H1.out _).mono ?_
    rintro e w1 ⟨rfl, rfl⟩
    go_wp2
    go_ret
    exact ⟨rfl, rfl⟩
  | false =>
    rw [h1] at H1
    clear h1
    cases h2 : cov b a with
    | true =>
      rw [h2] at H2
      clear h2
      go_enter Try.func45, Try.ntmps45
      go_wp2_with fail
      refine (H1.out _).mono ?_
      rintro e w1 ⟨rfl, rfl⟩
      go_wp2_with fail
      refine (H2.out _).mono ?_
      rintro e w1 ⟨rfl, rfl⟩
      go_wp2
      go_ret
      exact ⟨rfl, rfl⟩
    | false =>
      rw [h2] at H2
      clear h2
      generalize rgt a = p at HA
      generalize rgt b = q at HB
      cases p with
      | false =>
        go_enter Try.func45, Try.ntmps45
        go_wp2_with fail
        refine (H1.out _).mono ?_
        rintro e w1 ⟨rfl, rfl⟩
        go_wp2_with fail
        refine (H2.out _).mono ?_
        rintro e w1 ⟨rfl, rfl⟩
        go_wp2_with fail
        refine (HA.out _).mono ?_
        rintro e w1 ⟨rfl, rfl⟩
        go_wp2
        go_ret
        exact ⟨rfl, rfl⟩
      | true =>
        cases q
        all_goals
          go_enter Try.func45, Try.ntmps45
          go_wp2_with fail
          refine (H1.out _).mono ?_
          rintro e w1 ⟨rfl, rfl⟩
          go_wp2_with fail
          refine (H2.out _).mono ?_
          rintro e w1 ⟨rfl, rfl⟩
          go_wp2_with fail
          refine (HA.out _).mono ?_
          rintro e w1 ⟨rfl, rfl⟩
          go_wp2_with fail
          refine (HB.out _).mono ?_
          rintro e w1 ⟨rfl, rfl⟩
          go_wp2
          go_ret
          exact ⟨rfl, rfl⟩

end Go.Proofs.Ytmlbghloddiflaa
