/-
  The walk of ModeAround: it returns true, and turns nothing that was there.
-/
import Derived.Test.YtibndgdbicfjfaaModeCode
import Derived.OpenShut
namespace Go.Proofs.Ytibndgdbicfjfaa.modeAround
open Go.RowKit
set_option linter.unusedVariables false

set_option maxRecDepth 4000 in
set_option maxHeartbeats 1600000 in
theorem walk (x y : Int) (_ : (Lit.int .i64 x).wf = true) (_ : (Lit.int .i64 y).wf = true) (w : World) :
    Calls Try.prog 7 #[.int .i64 x, .int .i64 y] w fun e w' => e = .returned (.bool true) ∧ Below w.heap.size w w' := by
  have HX := hide (fun w => right12 x w)
  have AX := hide (fun w => around12 x w)
  have AY := hide (fun w => around12 y w)
  have A1 := hide (fun w => around12 1 w)
  have F1 := hide (fun w => fits12 x y w)
  have F2 := hide (fun w => fits12 (arn x) (arn y) w)
  have F3 := hide (fun w => fits12 5 x w)
  have C1 := hide (fun w => covers12 x 1 w)
  have C2 := hide (fun w => covers12 5 x w)
  have h1 := fun h => fit_around (a := x) (b := y) h
  have h2 := fun h => cov_is (a := x) h
  rw [fit_x] at F3
  rw [show arn 1 = 1 from rfl] at A1
  generalize fit x y = f at F1 h1
  generalize fit (arn x) (arn y) = f2 at F2 h1
  generalize arn x = ax at AX F2
  generalize arn y = ay at AY F2
  generalize rgt x = rx at HX h2
  generalize cov x 1 = c1 at C1 h2
  generalize cov 5 x = c2 at C2 h2
  cases rx with
  | true =>
    have e1 := (h2 rfl).1
    have e2 := (h2 rfl).2
    subst e1
    subst e2
    clear h2
    cases f with
    | true =>
      have e3 := h1 rfl
      subst e3
      clear h1
      go_enter Try.func7, Try.ntmps7
      go_wp2_with fail
      refine (awake12 _).mono ?_
      rintro e w1 ⟨rfl, rfl⟩
      go_wp2_with fail
      refine (F1.out _).mono ?_
      rintro e w1 ⟨rfl, rfl⟩
      go_wp2_with fail
      refine (AX.out _).mono ?_
      rintro e w1 ⟨rfl, rfl⟩
      go_wp2_with fail
      refine (AY.out _).mono ?_
      rintro e w1 ⟨rfl, rfl⟩
      go_wp2_with fail
      refine (F2.out _).mono ?_
      rintro e w1 ⟨rfl, rfl⟩
      go_wp2_with fail
      refine (F3.out _).mono ?_
      rintro e w1 ⟨rfl, rfl⟩
      go_wp2_with fail
      refine (HX.out _).mono ?_
      rintro e w1 ⟨rfl, rfl⟩
      go_wp2_with fail
      refine (A1.out _).mono ?_
      rintro e w1 ⟨rfl, rfl⟩
      go_wp2_with fail
      refine (C1.out _).mono ?_
      rintro e w1 ⟨rfl, rfl⟩
      go_wp2_with fail
      refine (C2.out _).mono ?_
      rintro e w1 ⟨rfl, rfl⟩
      go_wp2
      go_ret
      exact ⟨rfl, Below.refl _ _⟩
    | false =>
      clear h1
      go_enter Try.func7, Try.ntmps7
      go_wp2_with fail
      refine (awake12 _).mono ?_
      rintro e w1 ⟨rfl, rfl⟩
      go_wp2_with fail
      refine (F1.out _).mono ?_
      rintro e w1 ⟨rfl, rfl⟩
      go_wp2_with fail
      refine (F3.out _).mono ?_
      rintro e w1 ⟨rfl, rfl⟩
      go_wp2_with fail
      refine (HX.out _).mono ?_
      rintro e w1 ⟨rfl, rfl⟩
      go_wp2_with fail
      refine (A1.out _).mono ?_
      rintro e w1 ⟨rfl, rfl⟩
      go_wp2_with fail
      refine (C1.out _).mono ?_
      rintro e w1 ⟨rfl, rfl⟩
      go_wp2_with fail
      refine (C2.out _).mono ?_
      rintro e w1 ⟨rfl, rfl⟩
      go_wp2
      go_ret
      exact ⟨rfl, Below.refl _ _⟩
  | false =>
    clear h2
    cases f with
    | true =>
      have e3 := h1 rfl
      subst e3
      clear h1
      go_enter Try.func7, Try.ntmps7
      go_wp2_with fail
      refine (awake12 _).mono ?_
      rintro e w1 ⟨rfl, rfl⟩
      go_wp2_with fail
      refine (F1.out _).mono ?_
      rintro e w1 ⟨rfl, rfl⟩
      go_wp2_with fail
      refine (AX.out _).mono ?_
      rintro e w1 ⟨rfl, rfl⟩
      go_wp2_with fail
      refine (AY.out _).mono ?_
      rintro e w1 ⟨rfl, rfl⟩
      go_wp2_with fail
      refine (F2.out _).mono ?_
      rintro e w1 ⟨rfl, rfl⟩
      go_wp2_with fail
      refine (F3.out _).mono ?_
      rintro e w1 ⟨rfl, rfl⟩
      go_wp2_with fail
      refine (HX.out _).mono ?_
      rintro e w1 ⟨rfl, rfl⟩
      go_wp2
      go_ret
      exact ⟨rfl, Below.refl _ _⟩
    | false =>
      clear h1
      go_enter Try.func7, Try.ntmps7
      go_wp2_with fail
      refine (awake12 _).mono ?_
      rintro e w1 ⟨rfl, rfl⟩
      go_wp2_with fail
      refine (F1.out _).mono ?_
      rintro e w1 ⟨rfl, rfl⟩
      go_wp2_with fail
      refine (F3.out _).mono ?_
      rintro e w1 ⟨rfl, rfl⟩
      go_wp2_with fail
      refine (HX.out _).mono ?_
      rintro e w1 ⟨rfl, rfl⟩
      go_wp2
      go_ret
      exact ⟨rfl, Below.refl _ _⟩
end Go.Proofs.Ytibndgdbicfjfaa.modeAround
