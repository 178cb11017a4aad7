/-
  The walk of LsnOrders: it returns true, and turns nothing that was there.
-/
import Derived.Test.YtonbfckloicgaaaLsnAwake
import Derived.OpenShut
namespace Go.Proofs.Ytonbfckloicgaaa.lsnOrders
open Go.RowKit
set_option linter.unusedVariables false

set_option maxHeartbeats 400000 in
theorem rbefore_any (a b : Nat) (i j : Int) (w : World) :
    Calls Try.prog 17 #[.int .u64 a, .int .i64 i, .int .u64 b, .int .i64 j] w fun e w' => e = .returned (.bool (bef a i b j)) ∧ w = w' := by
  by_cases h1 : a < b
  · have e : bef a i b j = true := (bef_iff _ _ _ _).2 (Or.inl h1)
    have h2 : (a : Int) < (b : Int) := by omega
    rw [e]
    clear e
    go_enter Try.func17, Try.ntmps17
    go_wp2
    go_ret
    exact ⟨rfl, rfl⟩
  · by_cases h2 : a = b
    · subst h2
      have e : bef a i a j = decide (i < j) := by simp [bef]
      rw [e]
      clear e
      go_enter Try.func17, Try.ntmps17
      go_wp2
      go_ret
      exact ⟨by simp, rfl⟩
    · have e : bef a i b j = false := (bef_no _ _ _ _).2 (by omega)
      have h3 : decide ((a : Int) < (b : Int)) = false := by simp; omega
      have h4 : ((a : Int) == (b : Int)) = false := by simp; omega
      rw [e]
      clear e
      go_enter Try.func17, Try.ntmps17
      go_wp2
      go_ret
      exact ⟨by simp, rfl⟩

set_option maxHeartbeats 800000 in
theorem core (a b c : Nat) (i j k : Int) (ab ba bc ac : Bool) (w : World) (h1 : Hid (bef a i b j = ab)) (h2 : Hid (bef b j a i = ba)) (h3 : Hid (bef b j c k = bc)) (h4 : Hid (bef a i c k = ac))
    (g1 : ab = true → ba = false) (g2 : ab = false → ba = false → a = b ∧ i = j) (g3 : ab = true → bc = true → ac = true) :
    Calls Try.prog 6 #[.int .u64 a, .int .u64 b, .int .u64 c, .int .i64 i, .int .i64 j, .int .i64 k] w fun e w' => e = .returned (.bool true) ∧ Below w.heap.size w w' := by
  have A := fun w => before_any a b i j w
  have B := fun w => before_any b a j i w
  have C := fun w => before_any b c j k w
  have D := fun w => before_any a c i k w
  have R := fun w => rbefore_any a b i j w
  rw [h1.out] at A R
  rw [h2.out] at B
  rw [h3.out] at C
  rw [h4.out] at D
  have HA := hideL A
  have HB := hideL B
  have HC := hideL C
  have HD := hideL D
  have HR := hideL R
  clear A B C D R h1 h2 h3 h4
  cases ab
  · cases ba
    · obtain ⟨rfl, rfl⟩ := g2 rfl rfl
      clear g1 g2 g3
      go_enter Try.func6, Try.ntmps6
      go_wp2_with fail
      refine (awake_any _).mono ?_
      rintro e w1 ⟨rfl, hb1⟩
      go_wp2_with fail
      refine (HA.out _).mono ?_
      rintro e w2 ⟨rfl, rfl⟩
      go_wp2_with fail
      refine (HB.out _).mono ?_
      rintro e w2 ⟨rfl, rfl⟩
      go_wp2_with fail
      refine (HC.out _).mono ?_
      rintro e w2 ⟨rfl, rfl⟩
      go_wp2_with fail
      refine (HD.out _).mono ?_
      rintro e w2 ⟨rfl, rfl⟩
      go_wp2_with fail
      refine (HR.out _).mono ?_
      rintro e w2 ⟨rfl, rfl⟩
      go_wp2
      go_ret
      exact ⟨rfl, hb1⟩
    · clear g1 g2 g3
      go_enter Try.func6, Try.ntmps6
      go_wp2_with fail
      refine (awake_any _).mono ?_
      rintro e w1 ⟨rfl, hb1⟩
      go_wp2_with fail
      refine (HA.out _).mono ?_
      rintro e w2 ⟨rfl, rfl⟩
      go_wp2_with fail
      refine (HB.out _).mono ?_
      rintro e w2 ⟨rfl, rfl⟩
      go_wp2_with fail
      refine (HC.out _).mono ?_
      rintro e w2 ⟨rfl, rfl⟩
      go_wp2_with fail
      refine (HD.out _).mono ?_
      rintro e w2 ⟨rfl, rfl⟩
      go_wp2_with fail
      refine (HR.out _).mono ?_
      rintro e w2 ⟨rfl, rfl⟩
      go_wp2
      go_ret
      exact ⟨rfl, hb1⟩
  · have e : ba = false := g1 rfl
    subst e
    have e2 : bc = false ∨ (bc = true ∧ ac = true) := by
      cases bc
      · exact Or.inl rfl
      · exact Or.inr ⟨rfl, g3 rfl rfl⟩
    clear g1 g2 g3
    rcases e2 with rfl | ⟨rfl, rfl⟩
    all_goals
      go_enter Try.func6, Try.ntmps6
      go_wp2_with fail
      refine (awake_any _).mono ?_
      rintro e w1 ⟨rfl, hb1⟩
      go_wp2_with fail
      refine (HA.out _).mono ?_
      rintro e w2 ⟨rfl, rfl⟩
      go_wp2_with fail
      refine (HB.out _).mono ?_
      rintro e w2 ⟨rfl, rfl⟩
      go_wp2_with fail
      refine (HC.out _).mono ?_
      rintro e w2 ⟨rfl, rfl⟩
      go_wp2_with fail
      refine (HD.out _).mono ?_
      rintro e w2 ⟨rfl, rfl⟩
      go_wp2_with fail
      refine (HR.out _).mono ?_
      rintro e w2 ⟨rfl, rfl⟩
      go_wp2
      go_ret
      exact ⟨rfl, hb1⟩

theorem walk (a0 a1 a2 a3 a4 a5 : Int) (w0 : (Lit.int .u64 a0).wf = true) (w1 : (Lit.int .u64 a1).wf = true) (w2 : (Lit.int .u64 a2).wf = true) (w3 : (Lit.int .i64 a3).wf = true) (w4 : (Lit.int .i64 a4).wf = true) (w5 : (Lit.int .i64 a5).wf = true) (w : World) :
    Calls Try.prog 6 #[.int .u64 a0, .int .u64 a1, .int .u64 a2, .int .i64 a3, .int .i64 a4, .int .i64 a5] w fun e w' => e = .returned (.bool true) ∧ Below w.heap.size w w' := by
  obtain ⟨a, rfl⟩ := Int.eq_ofNat_of_zero_le (bounds_u64 w0).1
  obtain ⟨b, rfl⟩ := Int.eq_ofNat_of_zero_le (bounds_u64 w1).1
  obtain ⟨c, rfl⟩ := Int.eq_ofNat_of_zero_le (bounds_u64 w2).1
  refine core a b c a3 a4 a5 _ _ _ _ w rfl rfl rfl rfl ?_ ?_ ?_
  · intro h
    have h1 := (bef_iff _ _ _ _).1 h
    exact (bef_no _ _ _ _).2 (by omega)
  · intro h g
    have h1 := (bef_no _ _ _ _).1 h
    have h2 := (bef_no _ _ _ _).1 g
    omega
  · intro h g
    have h1 := (bef_iff _ _ _ _).1 h
    have h2 := (bef_iff _ _ _ _).1 g
    exact (bef_iff _ _ _ _).2 (by omega)
end Go.Proofs.Ytonbfckloicgaaa.lsnOrders
