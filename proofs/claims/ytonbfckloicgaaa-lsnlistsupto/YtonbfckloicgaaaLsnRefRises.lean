/-
  The contract of quaysideref03.Rises.
-/
import Derived.Test.YtonbfckloicgaaaLsnMath
import Derived.Test.YtonbfckloicgaaaProg
import Derived.WalkSpells
import Derived.Deep.QuietTactic
import Derived.BigQuiet
import Derived.WalkSmall
namespace Go.Proofs.Ytonbfckloicgaaa
open Go.RowKit
set_option linter.unusedVariables false

/-- Numbers rise up to a place. -/
def risesTo (zs : List Nat) (i : Nat) : Prop := ∀ k, 1 ≤ k → k < i → zs.getD (k - 1) 0 < zs.getD k 0
theorem rises_iff (zs : List Nat) : rises zs = true ↔ risesTo zs zs.length := by
  induction zs with
  | nil => exact ⟨fun _ k h1 h2 => absurd h2 (by simp), fun _ => rfl⟩
  | cons a l ih =>
    cases l with
    | nil =>
      refine ⟨fun _ k h1 h2 => ?_, fun _ => rfl⟩
      simp only [List.length_cons, List.length_nil] at h2
      omega
    | cons b l =>
      rw [rises, Bool.and_eq_true, decide_eq_true_iff, ih]
      constructor
      · rintro ⟨h1, h2⟩ k hk1 hk2
        obtain ⟨k, rfl⟩ : ∃ m, k = m + 1 := ⟨k - 1, by omega⟩
        cases k with
        | zero => exact h1
        | succ k => exact h2 (k + 1) (by omega) (by simp only [List.length_cons] at hk2 ⊢; omega)
      · intro h
        refine ⟨h 1 (by omega) (by simp), fun k hk1 hk2 => ?_⟩
        obtain ⟨k, rfl⟩ : ∃ m, k = m + 1 := ⟨k - 1, by omega⟩
        exact h (k + 2) (by omega) (by simp only [List.length_cons] at hk2 ⊢; omega)
theorem rises_no (zs : List Nat) (i : Nat) (h1 : 1 ≤ i) (h2 : i < zs.length) (h : zs.getD i 0 ≤ zs.getD (i - 1) 0) : rises zs = false := by
  rw [← Bool.not_eq_true, rises_iff]
  intro hr
  have := hr i h1 h2
  omega

set_option maxRecDepth 4000 in
set_option maxHeartbeats 800000 in
theorem rrises_any (a : Option Addr) (len cap : Nat) (zs : List Nat) (w : World) (h : IsU w a len zs) (hl : len ≤ 140737488355328) :
    Calls Try.prog 19 #[.slice a len cap] w fun e w' => e = .returned (.bool (rises zs)) ∧ ∃ m, w' = w.drewN m := by
  have HU := hideL h
  have hlen := h.1
  clear h
  go_enter Try.func19, Try.ntmps19
  go_wp2
  go_loopw [3] (fun i wr => ∃ j m : Nat, 1 ≤ j ∧ (j ≤ len ∨ j = 1) ∧ i = .int .i64 j ∧ wr = w.drewN m ∧ risesTo zs j) (fun i _ => len - (intOf i).toNat)
  case atStart => exact ⟨1, 0, Nat.le_refl _, .inr rfl, rfl, rfl, fun k h1 h2 => absurd h2 (by omega)⟩
  case round =>
    obtain ⟨j, m, h1, h2, rfl, rfl, hr⟩ := hrel
    by_cases hjl : j < len
    · obtain ⟨b, off, rfl, hb, hc⟩ := HU.out.2.2 (by omega)
      have c1 := hc j hjl
      have c2 := hc (j - 1) (by omega)
      have c2' : w.cell? ⟨b, off + ((j : Int) - 1).toNat, none⟩ = some (.int .u64 (zs.getD (j - 1) 0 : Nat)) := by
        have e : ((j : Int) - 1).toNat = j - 1 := by omega
        rw [e]
        exact c2
      have hjI : (j : Int) < (len : Int) := by omega
      have hj1 : (1 : Int) ≤ (j : Int) := by omega
      clear hc
      by_cases hle : zs.getD j 0 ≤ zs.getD (j - 1) 0
      · have hno := rises_no zs j h1 (by omega) hle
        have hleI : ((zs.getD j 0 : Nat) : Int) ≤ ((zs.getD (j - 1) 0 : Nat) : Int) := by omega
        generalize zs.getD j 0 = x at c1 hle hleI
        generalize zs.getD (j - 1) 0 = y at c2 c2' hle hleI
        go_wp2_with fail
        go_quiet (fail)
        go_wp2
        go_ret
        exact ⟨congrArg (fun b => Ending.returned (Value.bool b)) hno.symm, m + nq, World.drewN_drewN ..⟩
      · have hleI : ¬ ((zs.getD j 0 : Nat) : Int) ≤ ((zs.getD (j - 1) 0 : Nat) : Int) := by omega
        have hr' : risesTo zs (j + 1) := by
          intro k hk1 hk2
          by_cases hkj : k = j
          · subst hkj
            omega
          · exact hr k hk1 (by omega)
        generalize zs.getD j 0 = x at c1 hle hleI
        generalize zs.getD (j - 1) 0 = y at c2 c2' hle hleI
        have HR := hideL hr'
        clear hr hr'
        go_wp2_with fail
        go_quiet (fail)
        go_wp2
        go_roundw
        case rel => exact ⟨j + 1, m + nq, by omega, .inl (by omega), by go_num, rfl, HR.out⟩
        case measure => simp [intOf]; omega
    · have hy : rises zs = true := by
        rw [rises_iff]
        intro k hk1 hk2
        exact hr k hk1 (by omega)
      have hjI : ¬ (j : Int) < (len : Int) := by omega
      go_wp2
      go_ret
      exact ⟨rfl, m, rfl⟩
end Go.Proofs.Ytonbfckloicgaaa
