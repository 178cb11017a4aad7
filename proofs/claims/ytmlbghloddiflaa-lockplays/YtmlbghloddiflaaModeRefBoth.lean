/-
  The contract of the document's Both: the least mode that covers both, looked for from the first one on.
-/
import Derived.Test.YtmlbghloddiflaaModeCode
import Derived.OpenShut
section
namespace Go.Proofs.Ytmlbghloddiflaa
open Go.RowKit
set_option linter.unusedVariables false

set_option maxRecDepth 4000 in
theorem rright12 (a : Int) (w : World) :
    Calls Try.prog 54 #[.int .i64 a] w fun e w' => e = .returned (.bool (rgt a)) ∧ w = w' := by
  by_cases h1 : 1 ≤ a
  · have e : rgt a = decide (a ≤ 5) := by simp [rgt, h1]
    rw [e]
    go_enter Try.func54, Try.ntmps54
    go_wp2
    go_ret
    exact ⟨by simp, rfl⟩
  · have e : rgt a = false := by simp [rgt, h1]
    rw [e]
    go_enter Try.func54, Try.ntmps54
    go_wp2
    go_ret
    exact ⟨by simp, rfl⟩

set_option maxRecDepth 4000 in
set_option maxHeartbeats 800000 in
theorem rcovers12 (a b : Int) (w : World) :
    Calls Try.prog 56 #[.int .i64 a, .int .i64 b] w fun e w' => e = .returned (.bool (cov a b)) ∧ w = w' := by
  have HA := hide (fun w => rright12 a w)
  have HB := hide (fun w => rright12 b w)
  cases ha : rgt a with
  | false =>
    have e : cov a b = false := by simp [cov, ha]
    rw [e]
    rw [ha] at HA
    clear e ha
    go_enter Try.func56, Try.ntmps56
    go_wp2_with fail
    refine (HA.out _).mono ?_
    rintro e w1 ⟨rfl, rfl⟩
    go_wp2
    go_ret
    exact ⟨rfl, rfl⟩
  | true =>
    cases hb : rgt b with
    | false =>
      have e : cov a b = false := by simp [cov, hb]
      rw [e]
      rw [ha] at HA
      rw [hb] at HB
      clear e ha hb
      go_enter Try.func56, Try.ntmps56
      go_wp2_with fail
      refine (HA.out _).mono ?_
      rintro e w1 ⟨rfl, rfl⟩
      go_wp2_with fail
      refine (HB.out _).mono ?_
      rintro e w1 ⟨rfl, rfl⟩
      go_wp2
      go_ret
      exact ⟨rfl, rfl⟩
    | true =>
      rcases cls a with rfl | rfl | rfl | rfl | rfl | h
      case inr.inr.inr.inr.inr => exact absurd ((no_rgt h).symm.trans ha) (by decide)
      all_goals
        rcases cls b with rfl | rfl | rfl | rfl | rfl | h
        case inr.inr.inr.inr.inr => exact absurd ((no_rgt h).symm.trans hb) (by decide)
        all_goals
          rw [ha] at HA
          rw [hb] at HB
          clear ha hb
          go_enter Try.func56, Try.ntmps56
          go_wp2_with fail
          refine (HA.out _).mono ?_
          rintro e w1 ⟨rfl, rfl⟩
          go_wp2_with fail
          refine (HB.out _).mono ?_
          rintro e w1 ⟨rfl, rfl⟩
          go_wp2
          go_ret
          exact ⟨rfl, rfl⟩

set_option maxRecDepth 4000 in
set_option maxHeartbeats 1600000 in
theorem rfits12 (a b : Int) (w : World) :
    Calls Try.prog 78 #[.int .i64 a, .int .i64 b] w fun e w' => e = .returned (.bool (fit a b)) ∧ Below w.heap.size w w' := by
  have HA := hide (fun w => rright12 a w)
  have HB := hide (fun w => rright12 b w)
  cases ha : rgt a with
  | false =>
    have e : fit a b = false := by simp [fit, ha]
    rw [e]
    rw [ha] at HA
    clear e ha
    go_enter Try.func78, Try.ntmps78
    go_wp2_with fail
    refine (HA.out _).mono ?_
    rintro e w1 ⟨rfl, rfl⟩
    go_wp2
    go_ret
    exact ⟨rfl, Below.refl _ _⟩
  | true =>
    cases hb : rgt b with
    | false =>
      have e : fit a b = false := by simp [fit, hb]
      rw [e]
      rw [ha] at HA
      rw [hb] at HB
      clear e ha hb
      go_enter Try.func78, Try.ntmps78
      go_wp2_with fail
      refine (HA.out _).mono ?_
      rintro e w1 ⟨rfl, rfl⟩
      go_wp2_with fail
      refine (HB.out _).mono ?_
      rintro e w1 ⟨rfl, rfl⟩
      go_wp2
      go_ret
      exact ⟨rfl, Below.refl _ _⟩
    | true =>
      rcases cls a with rfl | rfl | rfl | rfl | rfl | h
      case inr.inr.inr.inr.inr => exact absurd ((no_rgt h).symm.trans ha) (by decide)
      all_goals
        rcases cls b with rfl | rfl | rfl | rfl | rfl | h
        case inr.inr.inr.inr.inr => exact absurd ((no_rgt h).symm.trans hb) (by decide)
        all_goals
          rw [ha] at HA
          rw [hb] at HB
          clear ha hb
          go_enter Try.func78, Try.ntmps78
          go_wp2_with fail
          refine (HA.out _).mono ?_
          rintro e w1 ⟨rfl, rfl⟩
          go_wp2_with fail
          refine (HB.out _).mono ?_
          rintro e w1 ⟨rfl, rfl⟩
          go_wp2
          go_ret
          exact ⟨rfl, (Below.refl _ _).alloc (Nat.le_refl _) _⟩
end Go.Proofs.Ytmlbghloddiflaa
end
section
namespace Go.Proofs.Ytmlbghloddiflaa
open Go.RowKit
set_option linter.unusedVariables false

/-- a mode below j that covers both and isn't above m: none -/
def okTo (a b : Int) (m : Nat) : Nat → Bool
  | 0 => true
  | j + 1 => okTo a b m j && !(cov (j : Int) a && cov (j : Int) b && !cov (j : Int) m)
def pick (a b : Int) (m : Nat) : Bool := cov (m : Int) a && cov (m : Int) b && okTo a b m 6
theorem cov_lit {k : Int} (h : nrm k = k) (a : Int) : cov k (nrm a) = cov k a := by
  have e := cov_nrm k a
  rw [h] at e
  exact e
theorem okTo_nrm (a b : Int) (m j : Nat) (h : j ≤ 6) : okTo (nrm a) (nrm b) m j = okTo a b m j := by
  induction j with
  | zero => rfl
  | succ j ih =>
    have e : nrm (j : Int) = (j : Int) := by
      have h6 : j < 6 := by omega
      exact (show ∀ k : Fin 6, nrm ((k.val : Nat) : Int) = ((k.val : Nat) : Int) by decide) ⟨j, h6⟩
    unfold okTo
    rw [ih (by omega), cov_lit e, cov_lit e]
theorem pick_nrm (a b : Int) (m : Nat) (h : m < 6) : pick (nrm a) (nrm b) m = pick a b m := by
  have e : nrm (m : Int) = (m : Int) := (show ∀ k : Fin 6, nrm ((k.val : Nat) : Int) = ((k.val : Nat) : Int) by decide) ⟨m, h⟩
  unfold pick
  rw [okTo_nrm _ _ _ _ (Nat.le_refl _), cov_lit e, cov_lit e]
theorem pick_yes {a b : Int} {m : Nat} (h : m < 6) (hp : pick a b m = true) : bth a b = (m : Int) := by
  rw [← pick_nrm _ _ _ h] at hp
  rw [← bth_nrm]
  exact (show ∀ x ∈ six, ∀ y ∈ six, ∀ k : Fin 6, pick x y k.val = true → bth x y = ((k.val : Nat) : Int) by decide) _ (nrm_in a) _ (nrm_in b) ⟨m, h⟩ hp
theorem pick_none {a b : Int} (hp : ∀ m, 1 ≤ m → m < 6 → pick a b m = false) : bth a b = 0 := by
  have h1 := hp 1 (by omega) (by omega)
  have h2 := hp 2 (by omega) (by omega)
  have h3 := hp 3 (by omega) (by omega)
  have h4 := hp 4 (by omega) (by omega)
  have h5 := hp 5 (by omega) (by omega)
  rw [← pick_nrm _ _ _ (by omega)] at h1 h2 h3 h4 h5
  rw [← bth_nrm]
  exact (show ∀ x ∈ six, ∀ y ∈ six, pick x y 1 = false → pick x y 2 = false → pick x y 3 = false → pick x y 4 = false → pick x y 5 = false → bth x y = 0 by decide) _ (nrm_in a) _ (nrm_in b) h1 h2 h3 h4 h5

set_option maxRecDepth 4000 in
set_option maxHeartbeats 1600000 in
theorem rboth12 (a b : Int) (w : World) :
    Calls Try.prog 55 #[.int .i64 a, .int .i64 b] w fun e w' => e = .returned (.int .i64 (bth a b)) ∧ w = w' := by
  go_enter Try.func55, Try.ntmps55
  go_wp2
  go_loopw [5] (fun i wr => ∃ j : Nat, 1 ≤ j ∧ j ≤ 6 ∧ i = .int .i64 j ∧ w = wr ∧ ∀ k, 1 ≤ k → k < j → pick a b k = false) (fun i _ => 6 - (intOf i).toNat)
  case atStart => exact ⟨1, by omega, by omega, rfl, rfl, fun k h1 h2 => absurd h2 (by omega)⟩
  case round =>
    obtain ⟨m, hm1, hm6, rfl, rfl, hno⟩ := hrel
    have HN := hide hno
    clear hno
    by_cases hlt : m < 6
    · have hI : (m : Int) ≤ 5 := by omega
      have HA := hide (fun w => rcovers12 (m : Int) a w)
      have HB := hide (fun w => rcovers12 (m : Int) b w)
      have HP := hide (show pick a b m = (cov (m : Int) a && cov (m : Int) b && okTo a b m 6) from rfl)
      generalize cov (m : Int) a = ca at HA HP
      generalize cov (m : Int) b = cb at HB HP
      cases ca with
      | false =>
        have HN2 := hide (show ∀ k, 1 ≤ k → k < m + 1 → pick a b k = false from fun k h1 h2 => by
          by_cases e : k = m
          · rw [e, HP.out]
            rfl
          · exact HN.out k h1 (by omega))
        clear HN HP
        go_wp2_with fail
        refine (HA.out _).mono ?_
        rintro e w1 ⟨rfl, rfl⟩
        go_wp2
        go_roundw
        case rel => exact ⟨m + 1, by omega, by omega, by go_num, by first | rfl | trivial, HN2.out⟩
        case measure => simp [intOf]; omega
      | true =>
        cases cb with
        | false =>
          have HN2 := hide (show ∀ k, 1 ≤ k → k < m + 1 → pick a b k = false from fun k h1 h2 => by
            by_cases e : k = m
            · rw [e, HP.out]
              rfl
            · exact HN.out k h1 (by omega))
          clear HN HP
          go_wp2_with fail
          refine (HA.out _).mono ?_
          rintro e w1 ⟨rfl, rfl⟩
          go_wp2_with fail
          refine (HB.out _).mono ?_
          rintro e w1 ⟨rfl, rfl⟩
          go_wp2
          go_roundw
          case rel => exact ⟨m + 1, by omega, by omega, by go_num, by first | rfl | trivial, HN2.out⟩
          case measure => simp [intOf]; omega
        | true =>
          have HO := hide (show okTo a b m 1 = true from by simp [okTo, show cov 0 a = false from by simp [cov, rgt]])
          go_wp2_with fail
          refine (HA.out _).mono ?_
          rintro e w1 ⟨rfl, rfl⟩
          go_wp2_with fail
          refine (HB.out _).mono ?_
          rintro e w1 ⟨rfl, rfl⟩
          go_wp2
          go_loopw [6, 7] (fun v i wr => ∃ j : Nat, 1 ≤ j ∧ j ≤ 6 ∧ i = .int .i64 j ∧ v = .bool (okTo a b m j) ∧ w = wr) (fun _ i _ => 6 - (intOf i).toNat)
          case atStart => exact ⟨1, by omega, by omega, rfl, by rw [HO.out], rfl⟩
          case round =>
            obtain ⟨j, hj1, hj6, rfl, rfl, rfl⟩ := hrel
            by_cases hjl : j < 6
            · have hJ : (j : Int) ≤ 5 := by omega
              have K1 := hide (fun w => rcovers12 (j : Int) a w)
              have K2 := hide (fun w => rcovers12 (j : Int) b w)
              have K3 := hide (fun w => rcovers12 (j : Int) m w)
              have KO := hide (show okTo a b m (j + 1) = (okTo a b m j && !(cov (j : Int) a && cov (j : Int) b && !cov (j : Int) m)) from rfl)
              generalize okTo a b m j = o at KO ⊢
              generalize cov (j : Int) a = k1 at K1 KO
              generalize cov (j : Int) b = k2 at K2 KO
              generalize cov (j : Int) m = k3 at K3 KO
              clear HO
              cases k1 with
              | false =>
                go_wp2_with fail
                refine (K1.out _).mono ?_
                rintro e w1 ⟨rfl, rfl⟩
                go_wp2
                go_roundw
                case rel => exact ⟨j + 1, by omega, by omega, by go_num, by rw [KO.out]; simp, by first | rfl | trivial⟩
                case measure => simp [intOf]; omega
              | true =>
                cases k2 with
                | false =>
                  go_wp2_with fail
                  refine (K1.out _).mono ?_
                  rintro e w1 ⟨rfl, rfl⟩
                  go_wp2_with fail
                  refine (K2.out _).mono ?_
                  rintro e w1 ⟨rfl, rfl⟩
                  go_wp2
                  go_roundw
                  case rel => exact ⟨j + 1, by omega, by omega, by go_num, by rw [KO.out]; simp, by first | rfl | trivial⟩
                  case measure => simp [intOf]; omega
                | true =>
                  cases k3
                  all_goals
                    go_wp2_with fail
                    refine (K1.out _).mono ?_
                    rintro e w1 ⟨rfl, rfl⟩
                    go_wp2_with fail
                    refine (K2.out _).mono ?_
                    rintro e w1 ⟨rfl, rfl⟩
                    go_wp2_with fail
                    refine (K3.out _).mono ?_
                    rintro e w1 ⟨rfl, rfl⟩
                    go_wp2
                    go_roundw
                    case rel => exact ⟨j + 1, by omega, by omega, by go_num, by rw [KO.out]; simp, by first | rfl | trivial⟩
                    case measure => simp [intOf]; omega
            · have hJ : ¬ (j : Int) ≤ 5 := by omega
              obtain rfl : j = 6 := by omega
              generalize okTo a b m 6 = o at HP ⊢
              cases o with
              | true =>
                have HE := hide (pick_yes (a := a) (b := b) hlt HP.out)
                go_wp2
                go_ret
                exact ⟨by rw [HE.out]; rfl, rfl⟩
              | false =>
                have HN2 := hide (show ∀ k, 1 ≤ k → k < m + 1 → pick a b k = false from fun k h1 h2 => by
                  by_cases e : k = m
                  · rw [e, HP.out]
                    rfl
                  · exact HN.out k h1 (by omega))
                clear HN HP
                go_wp2
                go_roundw
                case rel => exact ⟨m + 1, by omega, by omega, by go_num, by first | rfl | trivial, HN2.out⟩
                case measure => simp [intOf]; omega
    · have hI : ¬ (m : Int) ≤ 5 := by omega
      have HE := hide (pick_none (a := a) (b := b) fun k h1 h2 => HN.out k h1 (by omega))
      go_wp2
      go_ret
      exact ⟨by rw [HE.out]; rfl, rfl⟩
end Go.Proofs.Ytmlbghloddiflaa
end
