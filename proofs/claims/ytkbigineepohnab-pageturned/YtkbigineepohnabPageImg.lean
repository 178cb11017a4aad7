/-
  What a page's image is decoded as, of no program.
-/
import Derived.Test.YtkbigineepohnabPageDecMath
namespace Go.Proofs.Ytkbigineepohnab
open Go.RowKit
set_option linter.unusedVariables false

theorem torn_image (id : Nat) (p : Pg) (hp : p.right) : tornB (imageB id p) = false := by
  obtain ⟨h1, h2, _⟩ := image_parts id p hp
  unfold tornB
  rw [h1, h2]
  simp

theorem sum_image (id : Nat) (p : Pg) (hp : p.right) : leN ((taleOf (imageB id p)).drop 236) = crc ((taleOf (imageB id p)).take 236) := by
  rw [(image_parts id p hp).2.2]
  have hl := taleB_length id p hp
  have hb := bodyB_length id p hp
  have h1 : (taleB id p).take 236 = bodyB id p := by
    unfold taleB
    rw [List.take_left' hb]
  have h2 := (seal_eq_iff (taleB id p) (by omega)).1
  rw [hl] at h2
  refine h2 ?_
  show (taleB id p).take 236 ++ leB (crc ((taleB id p).take 236)) = taleB id p
  rw [h1]
  rfl

theorem dec_image (id : Int) (p : Pg) (h0 : 0 ≤ id ∧ id ≤ 31) (hp : p.right) : decE id (imageB id.toNat p) = 0 ∧ pgA (decP id (imageB id.toNat p)) = pgA p := by
  have hs := scan_image id.toNat p hp
  have h1 : decE id (imageB id.toNat p) = 0 := by
    rw [dec_last id _ h0 (imageB_length _ _ hp) (torn_image _ _ hp) (sum_image _ _ hp), if_pos ⟨hs.symm.right hp, hs.image _⟩]
  refine ⟨h1, ?_⟩
  unfold decP
  rw [if_pos h1]
  exact same_pgA hs

theorem dec_other (id jd : Int) (p : Pg) (h0 : 0 ≤ id ∧ id ≤ 31) (hp : p.right) : decE jd (imageB id.toNat p) = 0 ↔ jd = id := by
  constructor
  · intro h
    by_cases hj : 0 ≤ jd ∧ jd ≤ 31
    · rw [dec_last jd _ hj (imageB_length _ _ hp) (torn_image _ _ hp) (sum_image _ _ hp)] at h
      by_cases hr : (scanP (imageB id.toNat p)).right ∧ imageB jd.toNat (scanP (imageB id.toNat p)) = imageB id.toNat p
      · have := (image_inj hr.1 hp (by omega) (by omega) hr.2).1
        omega
      · rw [if_neg hr] at h
        cases h
    · unfold decE at h
      rw [if_pos hj] at h
      cases h
  · rintro rfl
    exact (dec_image jd p h0 hp).1

theorem dec_short (id : Int) (bs : List UInt8) (h0 : 0 ≤ id ∧ id ≤ 31) (h : bs.length < 256) : decE id bs = 4 := by
  unfold decE
  rw [if_neg (by simpa using h0), if_pos h]
theorem dec_long (id : Int) (bs : List UInt8) (h0 : 0 ≤ id ∧ id ≤ 31) (h : 256 < bs.length) : decE id bs = 2 := by
  unfold decE
  rw [if_neg (by simpa using h0), if_neg (by omega), if_pos h]
theorem dec_torn (id : Int) (bs : List UInt8) (h0 : 0 ≤ id ∧ id ≤ 31) (ht : tornB bs = true) : decE id bs = 14 := by
  have h : bs.length = 256 := by
    unfold tornB at ht
    exact (of_decide_eq_true ht).1
  unfold decE
  rw [if_neg (by simpa using h0), if_neg (by omega), if_neg (by omega), if_pos ht]
theorem enc_yes (id : Int) (p : Pg) (h : 0 ≤ id ∧ id ≤ 31 ∧ p.right) : encB id p = (imageB id.toNat p, 0) := by unfold encB; rw [if_pos h]
theorem enc_no (id : Int) (p : Pg) (h : ¬ (0 ≤ id ∧ id ≤ 31 ∧ p.right)) : encB id p = ([], 1) := by unfold encB; rw [if_neg h]
end Go.Proofs.Ytkbigineepohnab
