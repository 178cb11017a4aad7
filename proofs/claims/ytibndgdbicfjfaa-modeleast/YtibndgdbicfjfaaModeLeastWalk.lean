/-
  The walk of ModeLeast: it returns true, and turns nothing that was there.
-/
import Derived.Test.YtibndgdbicfjfaaModeCode
import Derived.OpenShut
namespace Go.Proofs.Ytibndgdbicfjfaa.modeLeast
open Go.RowKit
set_option linter.unusedVariables false

set_option maxRecDepth 4000 in
set_option maxHeartbeats 800000 in
theorem walk (x y z : Int) (_ : (Lit.int .i64 x).wf = true) (_ : (Lit.int .i64 y).wf = true) (_ : (Lit.int .i64 z).wf = true) (w : World) :
    Calls Try.prog 5 #[.int .i64 x, .int .i64 y, .int .i64 z] w fun e w' => e = .returned (.bool true) ∧ Below w.heap.size w w' := by
  have HX := hide (fun w => right12 x w)
  have HY := hide (fun w => right12 y w)
  have B := fun w => both12 x y w
  cases hx : rgt x with
  | false =>
    rw [hx] at HX
    rw [bth_no (.inl hx)] at B
    have HB := hide B
    clear B hx
    go_enter Try.func5, Try.ntmps5
    go_wp2_with fail
    refine (awake12 _).mono ?_
    rintro e w1 ⟨rfl, rfl⟩
    go_wp2_with fail
    refine (HX.out _).mono ?_
    rintro e w1 ⟨rfl, rfl⟩
    go_wp2_with fail
    refine (HB.out _).mono ?_
    rintro e w1 ⟨rfl, rfl⟩
    go_wp2
    go_ret
    exact ⟨rfl, Below.refl _ _⟩
  | true =>
    rw [hx] at HX
    cases hy : rgt y with
    | false =>
      rw [hy] at HY
      rw [bth_no (.inr hy)] at B
      have HB := hide B
      clear B hx hy
      go_enter Try.func5, Try.ntmps5
      go_wp2_with fail
      refine (awake12 _).mono ?_
      rintro e w1 ⟨rfl, rfl⟩
      go_wp2_with fail
      refine (HX.out _).mono ?_
      rintro e w1 ⟨rfl, rfl⟩
      go_wp2_with fail
      refine (HY.out _).mono ?_
      rintro e w1 ⟨rfl, rfl⟩
      go_wp2_with fail
      refine (HB.out _).mono ?_
      rintro e w1 ⟨rfl, rfl⟩
      go_wp2
      go_ret
      exact ⟨rfl, Below.refl _ _⟩
    | true =>
      rw [hy] at HY
      have h1 := (bth_covers hx hy).1
      have h2 := (bth_covers hx hy).2
      have h3 := fun h g => bth_least (a := x) (b := y) (c := z) h g
      have C1 := hide (fun w => covers12 (bth x y) x w)
      have C2 := hide (fun w => covers12 (bth x y) y w)
      have C3 := hide (fun w => covers12 z (bth x y) w)
      have D1 := hide (fun w => covers12 z x w)
      have D2 := hide (fun w => covers12 z y w)
      rw [h1] at C1
      rw [h2] at C2
      clear h1 h2 hx hy
      generalize cov z (bth x y) = c at C3 h3
      generalize bth x y = m at B C1 C2 C3
      have HB := hide B
      clear B
      cases e1 : cov z x with
      | false =>
        rw [e1] at D1
        clear e1 h3
        go_enter Try.func5, Try.ntmps5
        go_wp2_with fail
        refine (awake12 _).mono ?_
        rintro e w1 ⟨rfl, rfl⟩
        go_wp2_with fail
        refine (HX.out _).mono ?_
        rintro e w1 ⟨rfl, rfl⟩
        go_wp2_with fail
        refine (HY.out _).mono ?_
        rintro e w1 ⟨rfl, rfl⟩
        go_wp2_with fail
        refine (HB.out _).mono ?_
        rintro e w1 ⟨rfl, rfl⟩
        go_wp2_with fail
        refine (C1.out _).mono ?_
        rintro e w1 ⟨rfl, rfl⟩
        go_wp2_with fail
        refine (C2.out _).mono ?_
        rintro e w1 ⟨rfl, rfl⟩
        go_wp2_with fail
        refine (D1.out _).mono ?_
        rintro e w1 ⟨rfl, rfl⟩
        go_wp2
        go_ret
        exact ⟨rfl, Below.refl _ _⟩
      | true =>
        rw [e1] at D1
        cases e2 : cov z y with
        | false =>
          rw [e2] at D2
          clear e1 e2 h3
          go_enter Try.func5, Try.ntmps5
          go_wp2_with fail
          refine (awake12 _).mono ?_
          rintro e w1 ⟨rfl, rfl⟩
          go_wp2_with fail
          refine (HX.out _).mono ?_
          rintro e w1 ⟨rfl, rfl⟩
          go_wp2_with fail
          refine (HY.out _).mono ?_
          rintro e w1 ⟨rfl, rfl⟩
          go_wp2_with fail
          refine (HB.out _).mono ?_
          rintro e w1 ⟨rfl, rfl⟩
          go_wp2_with fail
          refine (C1.out _).mono ?_
          rintro e w1 ⟨rfl, rfl⟩
          go_wp2_with fail
          refine (C2.out _).mono ?_
          rintro e w1 ⟨rfl, rfl⟩
          go_wp2_with fail
          refine (D1.out _).mono ?_
          rintro e w1 ⟨rfl, rfl⟩
          go_wp2_with fail
          refine (D2.out _).mono ?_
          rintro e w1 ⟨rfl, rfl⟩
          go_wp2
          go_ret
          exact ⟨rfl, Below.refl _ _⟩
        | true =>
          rw [e2] at D2
          rw [h3 e1 e2] at C3
          clear e1 e2 h3
          go_enter Try.func5, Try.ntmps5
          go_wp2_with fail
          refine (awake12 _).mono ?_
          rintro e w1 ⟨rfl, rfl⟩
          go_wp2_with fail
          refine (HX.out _).mono ?_
          rintro e w1 ⟨rfl, rfl⟩
          go_wp2_with fail
          refine (HY.out _).mono ?_
          rintro e w1 ⟨rfl, rfl⟩
          go_wp2_with fail
          refine (HB.out _).mono ?_
          rintro e w1 ⟨rfl, rfl⟩
          go_wp2_with fail
          refine (C1.out _).mono ?_
          rintro e w1 ⟨rfl, rfl⟩
          go_wp2_with fail
          refine (C2.out _).mono ?_
          rintro e w1 ⟨rfl, rfl⟩
          go_wp2_with fail
          refine (D1.out _).mono ?_
          rintro e w1 ⟨rfl, rfl⟩
          go_wp2_with fail
          refine (D2.out _).mono ?_
          rintro e w1 ⟨rfl, rfl⟩
          go_wp2_with fail
          refine (C3.out _).mono ?_
          rintro e w1 ⟨rfl, rfl⟩
          go_wp2
          go_ret
          exact ⟨rfl, Below.refl _ _⟩
end Go.Proofs.Ytibndgdbicfjfaa.modeLeast
