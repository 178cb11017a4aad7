/-
  The walk of ModeTables: it returns true, and turns nothing that was there.
-/
import Derived.Test.YtibndgdbicfjfaaModeRefBoth
import Derived.OpenShut
namespace Go.Proofs.Ytibndgdbicfjfaa.modeTables
open Go.RowKit
set_option linter.unusedVariables false

set_option maxRecDepth 4000 in
set_option maxHeartbeats 1600000 in
theorem walk (x y : Int) (_ : (Lit.int .i64 x).wf = true) (_ : (Lit.int .i64 y).wf = true) (w : World) :
    Calls Try.prog 3 #[.int .i64 x, .int .i64 y] w fun e w' => e = .returned (.bool true) ∧ Below w.heap.size w w' := by
  have A1 := hide (fun w => right12 x w)
  have A2 := hide (fun w => rright12 x w)
  have B1 := hide (fun w => fits12 x y w)
  have B2 := hide (fun w => rfits12 x y w)
  have C1 := hide (fun w => covers12 x y w)
  have C2 := hide (fun w => rcovers12 x y w)
  have D1 := hide (fun w => both12 x y w)
  have D2 := hide (fun w => rboth12 x y w)
  have E1 := hide (fun w => around12 x w)
  have E2 := hide (fun w => raround12 x w)
  generalize rgt x = a at A1 A2
  generalize fit x y = b at B1 B2
  generalize cov x y = c at C1 C2
  generalize bth x y = d at D1 D2
  generalize arn x = f at E1 E2
  cases a <;> cases b <;> cases c
  all_goals
    go_enter Try.func3, Try.ntmps3
    go_wp2_with fail
    refine (awake12 _).mono ?_
    rintro e w1 ⟨rfl, rfl⟩
    go_wp2_with fail
    refine (A1.out _).mono ?_
    rintro e w1 ⟨rfl, rfl⟩
    go_wp2_with fail
    refine (A2.out _).mono ?_
    rintro e w1 ⟨rfl, rfl⟩
    go_wp2_with fail
    refine (B1.out _).mono ?_
    rintro e w1 ⟨rfl, rfl⟩
    go_wp2_with fail
    refine (B2.out _).mono ?_
    rintro e w1 ⟨rfl, hb⟩
    go_wp2_with fail
    refine (C1.out _).mono ?_
    rintro e w1 ⟨rfl, rfl⟩
    go_wp2_with fail
    refine (C2.out _).mono ?_
    rintro e w1 ⟨rfl, rfl⟩
    go_wp2_with fail
    refine (D1.out _).mono ?_
    rintro e w1 ⟨rfl, rfl⟩
    go_wp2_with fail
    refine (D2.out _).mono ?_
    rintro e w1 ⟨rfl, rfl⟩
    go_wp2_with fail
    refine (E1.out _).mono ?_
    rintro e w1 ⟨rfl, rfl⟩
    go_wp2_with fail
    refine (E2.out _).mono ?_
    rintro e w1 ⟨rfl, rfl⟩
    go_wp2
    go_ret
    exact ⟨rfl, hb⟩
end Go.Proofs.Ytibndgdbicfjfaa.modeTables
