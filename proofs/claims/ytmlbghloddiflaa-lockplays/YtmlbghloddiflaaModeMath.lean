/-
  Modes of locks as numbers, of no program: what fits, covers, is put together.
-/
import Derived.ProofKit
namespace Go.Proofs.Ytmlbghloddiflaa

def rgt (x : Int) : Bool := decide (1 ≤ x) && decide (x ≤ 5)
def cov (a b : Int) : Bool := rgt a && rgt b && (a == b || b == 1 || a == 5 || (a == 4 && (b == 2 || b == 3)))
def fit (a b : Int) : Bool := rgt a && rgt b && ((a == 1 && b != 5) || (b == 1 && a != 5) || (a == 2 && b == 2) || (a == 3 && b == 3))
def bth (a b : Int) : Int := if cov a b then a else if cov b a then b else if rgt a && rgt b then 4 else 0
def arn (m : Int) : Int := if m == 1 || m == 3 then 1 else if m == 2 || m == 4 || m == 5 then 2 else 0
/-- the mode itself, or 0 -/
def nrm (x : Int) : Int := if rgt x then x else 0

/-- what a number is: one of the five, or none of them -/
theorem cls (x : Int) : x = 1 ∨ x = 2 ∨ x = 3 ∨ x = 4 ∨ x = 5 ∨ (x < 1 ∨ 5 < x) := by omega
theorem no_rgt {x : Int} (h : x < 1 ∨ 5 < x) : rgt x = false := by
  unfold rgt
  rw [Bool.and_eq_false_iff]
  rcases h with h | h
  · exact .inl (decide_eq_false (by omega))
  · exact .inr (decide_eq_false (by omega))
theorem no_nrm {x : Int} (h : x < 1 ∨ 5 < x) : nrm x = 0 := by simp [nrm, no_rgt h]
theorem nrm_in (x : Int) : nrm x ∈ [0, 1, 2, 3, 4, (5 : Int)] := by
  rcases cls x with rfl | rfl | rfl | rfl | rfl | h
  · decide
  · decide
  · decide
  · decide
  · decide
  · rw [no_nrm h]
    decide
theorem rgt_nrm (x : Int) : rgt (nrm x) = rgt x := by
  rcases cls x with rfl | rfl | rfl | rfl | rfl | h
  · rfl
  · rfl
  · rfl
  · rfl
  · rfl
  · rw [no_nrm h, no_rgt h]
    rfl
theorem rgt_self {x : Int} (h : rgt x = true) : nrm x = x := by simp [nrm, h]
theorem cov_nrm (a b : Int) : cov (nrm a) (nrm b) = cov a b := by
  unfold cov
  rw [rgt_nrm, rgt_nrm]
  cases ha : rgt a
  · rfl
  · cases hb : rgt b
    · rfl
    · rw [rgt_self ha, rgt_self hb]
theorem fit_nrm (a b : Int) : fit (nrm a) (nrm b) = fit a b := by
  unfold fit
  rw [rgt_nrm, rgt_nrm]
  cases ha : rgt a
  · rfl
  · cases hb : rgt b
    · rfl
    · rw [rgt_self ha, rgt_self hb]
theorem bth_nrm (a b : Int) : bth (nrm a) (nrm b) = bth a b := by
  unfold bth
  rw [cov_nrm, cov_nrm, rgt_nrm, rgt_nrm]
  cases ha : rgt a
  · have e1 : cov a b = false := by simp [cov, ha]
    have e2 : cov b a = false := by simp [cov, ha]
    rw [e1, e2]
    rfl
  · cases hb : rgt b
    · have e1 : cov a b = false := by simp [cov, hb]
      have e2 : cov b a = false := by simp [cov, hb]
      rw [e1, e2]
      rfl
    · rw [rgt_self ha, rgt_self hb]
theorem arn_nrm (x : Int) : arn (nrm x) = arn x := by
  rcases cls x with rfl | rfl | rfl | rfl | rfl | h
  · rfl
  · rfl
  · rfl
  · rfl
  · rfl
  · rw [no_nrm h]
    have h1 : (x == 1) = false := by simp; omega
    have h2 : (x == 2) = false := by simp; omega
    have h3 : (x == 3) = false := by simp; omega
    have h4 : (x == 4) = false := by simp; omega
    have h5 : (x == 5) = false := by simp; omega
    simp [arn, h1, h2, h3, h4, h5]
theorem bth_is (a b : Int) : nrm (bth a b) = bth a b := by
  rw [← bth_nrm]
  exact (show ∀ x ∈ [0, 1, 2, 3, 4, (5 : Int)], ∀ y ∈ [0, 1, 2, 3, 4, (5 : Int)], nrm (bth x y) = bth x y by decide) _ (nrm_in a) _ (nrm_in b)
theorem arn_is (a : Int) : nrm (arn a) = arn a := by
  rw [← arn_nrm]
  exact (show ∀ x ∈ [0, 1, 2, 3, 4, (5 : Int)], nrm (arn x) = arn x by decide) _ (nrm_in a)
theorem cov_bth_l (z a b : Int) : cov z (bth a b) = cov (nrm z) (bth (nrm a) (nrm b)) := by
  rw [← cov_nrm z, bth_nrm, bth_is]
theorem bth_bth_r (z a b : Int) : bth z (bth a b) = bth (nrm z) (bth (nrm a) (nrm b)) := by
  rw [← bth_nrm z, bth_nrm a b, bth_is]
theorem bth_bth_l (z a b : Int) : bth (bth a b) z = bth (bth (nrm a) (nrm b)) (nrm z) := by
  rw [← bth_nrm _ z, bth_nrm a b, bth_is]
theorem cov_bth_r (z a b : Int) : cov (bth a b) z = cov (bth (nrm a) (nrm b)) (nrm z) := by
  rw [← cov_nrm _ z, bth_nrm a b, bth_is]
theorem fit_bth (z a b : Int) : fit (bth a b) z = fit (bth (nrm a) (nrm b)) (nrm z) := by
  rw [← fit_nrm _ z, bth_nrm a b, bth_is]

abbrev six : List Int := [0, 1, 2, 3, 4, 5]

theorem bth_comm (a b : Int) : bth a b = bth b a := by
  rw [← bth_nrm a b, ← bth_nrm b a]
  exact (show ∀ x ∈ six, ∀ y ∈ six, bth x y = bth y x by decide) _ (nrm_in a) _ (nrm_in b)
theorem bth_assoc (a b c : Int) : bth (bth a b) c = bth a (bth b c) := by
  rw [bth_bth_l, bth_bth_r]
  exact (show ∀ x ∈ six, ∀ y ∈ six, ∀ z ∈ six, bth (bth x y) z = bth x (bth y z) by decide) _ (nrm_in a) _ (nrm_in b) _ (nrm_in c)
theorem bth_self (a : Int) : bth a a = nrm a := by
  rw [← bth_nrm]
  have h := (show ∀ x ∈ six, bth x x = x by decide) _ (nrm_in a)
  exact h
theorem bth_no {a b : Int} (h : rgt a = false ∨ rgt b = false) : bth a b = 0 := by
  have hh : (rgt (nrm a) = false ∨ rgt (nrm b) = false) := by rw [rgt_nrm, rgt_nrm]; exact h
  rw [← bth_nrm]
  exact (show ∀ x ∈ six, ∀ y ∈ six, (rgt x = false ∨ rgt y = false) → bth x y = 0 by decide) _ (nrm_in a) _ (nrm_in b) hh
theorem bth_covers {a b : Int} (ha : rgt a = true) (hb : rgt b = true) : cov (bth a b) a = true ∧ cov (bth a b) b = true := by
  rw [cov_bth_r a, cov_bth_r b]
  rw [← rgt_nrm] at ha hb
  exact (show ∀ x ∈ six, ∀ y ∈ six, rgt x = true → rgt y = true → cov (bth x y) x = true ∧ cov (bth x y) y = true by decide) _ (nrm_in a) _ (nrm_in b) ha hb
theorem bth_least {a b c : Int} (ha : cov c a = true) (hb : cov c b = true) : cov c (bth a b) = true := by
  rw [cov_bth_l]
  rw [← cov_nrm] at ha hb
  exact (show ∀ x ∈ six, ∀ y ∈ six, ∀ z ∈ six, cov z x = true → cov z y = true → cov z (bth x y) = true by decide) _ (nrm_in a) _ (nrm_in b) _ (nrm_in c) ha hb
theorem fit_comm (a b : Int) : fit a b = fit b a := by
  rw [← fit_nrm a b, ← fit_nrm b a]
  exact (show ∀ x ∈ six, ∀ y ∈ six, fit x y = fit y x by decide) _ (nrm_in a) _ (nrm_in b)
theorem fit_both {a b : Int} (c : Int) (ha : rgt a = true) (hb : rgt b = true) : fit (bth a b) c = (fit a c && fit b c) := by
  rw [fit_bth, ← fit_nrm a c, ← fit_nrm b c]
  rw [← rgt_nrm] at ha hb
  exact (show ∀ x ∈ six, ∀ y ∈ six, ∀ z ∈ six, rgt x = true → rgt y = true → fit (bth x y) z = (fit x z && fit y z) by decide) _ (nrm_in a) _ (nrm_in b) _ (nrm_in c) ha hb
theorem fit_cov {a b c : Int} (h : cov a b = true) (g : fit a c = true) : fit b c = true := by
  rw [← fit_nrm] at g ⊢
  rw [← cov_nrm] at h
  exact (show ∀ x ∈ six, ∀ y ∈ six, ∀ z ∈ six, cov x y = true → fit x z = true → fit y z = true by decide) _ (nrm_in a) _ (nrm_in b) _ (nrm_in c) h g
theorem fit_around {a b : Int} (h : fit a b = true) : fit (arn a) (arn b) = true := by
  rw [← arn_nrm a, ← arn_nrm b]
  rw [← fit_nrm] at h
  exact (show ∀ x ∈ six, ∀ y ∈ six, fit x y = true → fit (arn x) (arn y) = true by decide) _ (nrm_in a) _ (nrm_in b) h
theorem fit_x (a : Int) : fit 5 a = false := by
  rw [← fit_nrm]
  exact (show ∀ x ∈ six, fit (nrm 5) x = false by decide) _ (nrm_in a)
theorem cov_is {a : Int} (h : rgt a = true) : cov a 1 = true ∧ cov 5 a = true := by
  rw [← cov_nrm a, ← cov_nrm 5]
  rw [← rgt_nrm] at h
  exact (show ∀ x ∈ six, rgt x = true → cov x (nrm 1) = true ∧ cov (nrm 5) x = true by decide) _ (nrm_in a) h
end Go.Proofs.Ytmlbghloddiflaa
