/-
  Bits turned within an image, of no program.
-/
import Derived.Test.YtkbigineepohnabPageImg
namespace Go.Proofs.Ytkbigineepohnab
open Go.RowKit
set_option linter.unusedVariables false

theorem bit_take (bs : List UInt8) (n j : Nat) (h : j < 8 * n) : bitAt (bs.take n) j = bitAt bs j := by
  unfold bitAt
  have e : (bs.take n).getD (j / 8) 0 = bs.getD (j / 8) 0 := by
    have : j / 8 < n := by omega
    simp [List.getD, this]
  rw [e]
theorem bit_drop (bs : List UInt8) (n j : Nat) : bitAt (bs.drop n) j = bitAt bs (j + 8 * n) := by
  unfold bitAt
  have e1 : (j + 8 * n) / 8 = n + j / 8 := by omega
  have e2 : (j + 8 * n) % 8 = j % 8 := by omega
  have e : (bs.drop n).getD (j / 8) 0 = bs.getD (n + j / 8) 0 := by simp [List.getD]
  rw [e, e1, e2]
theorem bit_append (a b : List UInt8) (j : Nat) : bitAt (a ++ b) j = if j < 8 * a.length then bitAt a j else bitAt b (j - 8 * a.length) := by
  unfold bitAt
  by_cases h : j < 8 * a.length
  · have h1 : j / 8 < a.length := by omega
    rw [if_pos h]
    have e : (a ++ b).getD (j / 8) 0 = a.getD (j / 8) 0 := by simp [List.getD, List.getElem?_append_left h1]
    rw [e]
  · have h1 : a.length ≤ j / 8 := by omega
    rw [if_neg h]
    have e : (a ++ b).getD (j / 8) 0 = b.getD (j / 8 - a.length) 0 := by simp [List.getD, List.getElem?_append_right h1]
    have e1 : (j - 8 * a.length) / 8 = j / 8 - a.length := by omega
    have e2 : (j - 8 * a.length) % 8 = j % 8 := by omega
    rw [e, e1, e2]
theorem bit_tale (bs : List UInt8) (hb : bs.length = 256) (j : Nat) (hj : j < 1920) : bitAt (taleOf bs) j = if j < 960 then bitAt bs (j + 64) else bitAt bs (j + 128) := by
  have hl : ((bs.drop 8).take 120).length = 120 := by rw [List.length_take, List.length_drop]; omega
  unfold taleOf
  rw [bit_append, hl]
  by_cases h : j < 960
  · rw [if_pos (by omega), if_pos h, bit_take _ _ _ (by omega), bit_drop]
  · rw [if_neg (by omega), if_neg h, bit_drop]
    have e : j - 8 * 120 + 8 * 136 = j + 128 := by omega
    rw [e]

/-- The window of bits that are turned. -/
theorem win_in (k t i : Nat) (hi : i < 32) : win k t (k + i) = t.testBit i := by
  unfold win
  have e : k + i - k = i := by omega
  rw [e]
  simp
  omega
theorem win_out (k t j : Nat) (h : j < k ∨ k + 32 ≤ j) : win k t j = false := by
  unfold win
  rcases h with h | h
  · have : decide (k ≤ j) = false := by rw [decide_eq_false_iff_not]; omega
    simp [this]
  · have : decide (j < k + 32) = false := by rw [decide_eq_false_iff_not]; omega
    simp [this]
theorem win_move (k t j d : Nat) : win (k + d) t (j + d) = win k t j := by
  unfold win
  have e1 : decide (k + d ≤ j + d) = decide (k ≤ j) := decide_eq_decide.2 (by omega)
  have e2 : decide (j + d < k + d + 32) = decide (j < k + 32) := decide_eq_decide.2 (by omega)
  have e3 : j + d - (k + d) = j - k := by omega
  rw [e1, e2, e3]

theorem turned_bits (S : List UInt8) (k t : Nat) (hk : k + 32 ≤ 8 * S.length) (j : Nat) (hj : j < 8 * S.length) : bitAt (fl S k t 32) j = (bitAt S j ^^ win k t j) := fl_bits S k t 32 hk j hj

theorem some_bit (t : Nat) (ht : t < 2 ^ 32) (h0 : t ≠ 0) : ∃ i, i < 32 ∧ t.testBit i = true := by
  obtain ⟨i, hi⟩ := Nat.exists_testBit_of_ne_zero h0
  refine ⟨i, ?_, hi⟩
  have h1 := Nat.ge_two_pow_of_testBit hi
  rcases Nat.lt_or_ge i 32 with h | h
  · exact h
  · have : 2 ^ 32 ≤ 2 ^ i := Nat.pow_le_pow_right (by omega) h
    omega

/-- Bytes outside the window stay. -/
theorem fl_byte (S : List UInt8) (k t b : Nat) : ∀ (n : Nat), (∀ i, i < n → (k + i) / 8 ≠ b) → (fl S k t n).getD b 0 = S.getD b 0
  | 0, _ => rfl
  | n + 1, h => by
    have ih := fl_byte S k t b n (fun i hi => h i (by omega))
    have hn := h n (by omega)
    rw [fl]
    split
    · rw [← ih]
      simp [List.getD, List.getElem?_set_ne hn]
    · exact ih
theorem ext_getD {a b : List UInt8} (hl : a.length = b.length) (h : ∀ i, i < a.length → a.getD i 0 = b.getD i 0) : a = b := by
  refine List.ext_getElem hl fun i h1 h2 => ?_
  have := h i h1
  simpa [List.getD, List.getElem?_eq_getElem h1, List.getElem?_eq_getElem h2] using this
theorem fl_take (S : List UInt8) (k t n : Nat) (h : 8 * n ≤ k) : (fl S k t 32).take n = S.take n := by
  refine ext_getD (by simp [fl_length]) fun i hi => ?_
  have hi2 : i < n := by simp [fl_length] at hi; omega
  have e : ∀ l : List UInt8, (l.take n).getD i 0 = l.getD i 0 := fun l => by simp [List.getD, hi2]
  rw [e, e, fl_byte S k t i 32 (fun m _ => by omega)]
theorem fl_mid (S : List UInt8) (k t d n : Nat) (h : k + 32 ≤ 8 * d ∨ 8 * (d + n) ≤ k) : ((fl S k t 32).drop d).take n = (S.drop d).take n := by
  refine ext_getD (by simp [fl_length]) fun i hi => ?_
  have hi2 : i < n := by simp [fl_length] at hi; omega
  have e : ∀ l : List UInt8, ((l.drop d).take n).getD i 0 = l.getD (d + i) 0 := fun l => by simp [List.getD, hi2]
  rw [e, e, fl_byte S k t (d + i) 32 (fun m hm => by omega)]

/-- A stamp turned: torn. -/
theorem turned_torn (id : Nat) (p : Pg) (hp : p.right) (k t : Nat) (ht : t < 2 ^ 32) (h0 : t ≠ 0) (hk : k + 32 ≤ 64) (second : Bool) : tornB (fl (imageB id p) ((if second then 1024 else 0) + k) t 32) = true := by
  have hl := imageB_length id p hp
  obtain ⟨h1, h2, _⟩ := image_parts id p hp
  obtain ⟨i, hi, hb⟩ := some_bit t ht h0
  have hlen : (fl (imageB id p) ((if second then 1024 else 0) + k) t 32).length = 256 := by rw [fl_length, hl]
  refine decide_eq_true ⟨hlen, fun e => ?_⟩
  cases second
  · simp only [Bool.false_eq_true, if_false, Nat.zero_add] at e
    rw [fl_mid _ _ _ 128 8 (.inl (by omega)), h2, ← h1] at e
    have e1 : bitAt ((fl (imageB id p) k t 32).take 8) (k + i) = bitAt ((imageB id p).take 8) (k + i) := by rw [e]
    rw [bit_take _ _ _ (by omega), bit_take _ _ _ (by omega), turned_bits _ _ _ (by omega) _ (by omega), win_in k t i hi, hb] at e1
    simp at e1
  · simp only [if_true] at e
    rw [fl_take _ _ _ 8 (by omega), h1, ← h2] at e
    have e1 : bitAt (((fl (imageB id p) (1024 + k) t 32).drop 128).take 8) (k + i) = bitAt (((imageB id p).drop 128).take 8) (k + i) := by rw [e]
    have e2 : k + i + 8 * 128 = 1024 + k + i := by omega
    rw [bit_take _ _ _ (by omega), bit_take _ _ _ (by omega), bit_drop, bit_drop, e2, turned_bits _ _ _ (by omega) _ (by omega), win_in (1024 + k) t i hi, hb] at e1
    simp at e1

/-- The tale turned: not torn, and the sum is wrong. -/
theorem turned_sum (id : Nat) (p : Pg) (hp : p.right) (k t : Nat) (ht : t < 2 ^ 32) (h0 : t ≠ 0) (hk : k + 32 ≤ 960) (second : Bool) :
    tornB (fl (imageB id p) ((if second then 1088 else 64) + k) t 32) = false ∧ ¬ leN ((taleOf (fl (imageB id p) ((if second then 1088 else 64) + k) t 32)).drop 236) = crc ((taleOf (fl (imageB id p) ((if second then 1088 else 64) + k) t 32)).take 236) := by
  have hl := imageB_length id p hp
  obtain ⟨h1, h2, h3⟩ := image_parts id p hp
  have hK : 64 ≤ (if second then 1088 else 64) + k := by split <;> omega
  have hK2 : (if second then 1088 else 64) + k + 32 ≤ 2048 := by split <;> omega
  have hlen : (fl (imageB id p) ((if second then 1088 else 64) + k) t 32).length = 256 := by rw [fl_length, hl]
  constructor
  · have e1 : (fl (imageB id p) ((if second then 1088 else 64) + k) t 32).take 8 = beB 8 p.l := by rw [fl_take _ _ _ 8 (by omega), h1]
    have e2 : ((fl (imageB id p) ((if second then 1088 else 64) + k) t 32).drop 128).take 8 = beB 8 p.l := by
      rw [fl_mid _ _ _ 128 8 (by cases second <;> simp <;> omega), h2]
    unfold tornB
    rw [e1, e2]
    simp
  · have htl := taleOf_length _ hlen
    have hbl := bodyB_length id p hp
    have hop : openS (taleOf (fl (imageB id p) ((if second then 1088 else 64) + k) t 32)) = ([], 3) := by
      refine openS_turned (bodyB id p) _ ((if second then 960 else 0) + k) t ht h0 (by rw [htl, hbl]) (by rw [hbl]; split <;> omega) fun j hj => ?_
      rw [hbl] at hj
      have e3 : bodyB id p ++ leB (crc (bodyB id p)) = taleOf (imageB id p) := by rw [h3]; rfl
      rw [e3, bit_tale _ hlen j (by omega), bit_tale _ hl j (by omega)]
      cases second
      · simp only [Bool.false_eq_true, if_false, Nat.zero_add]
        by_cases hj2 : j < 960
        · rw [if_pos hj2, if_pos hj2, turned_bits _ _ _ (by omega) _ (by omega)]
          have e4 : 64 + k = k + 64 := by omega
          rw [e4, win_move]
        · rw [if_neg hj2, if_neg hj2, turned_bits _ _ _ (by omega) _ (by omega), win_out _ _ _ (.inr (by omega)), win_out _ _ _ (.inr (by omega))]
      · simp only [if_true]
        by_cases hj2 : j < 960
        · rw [if_pos hj2, if_pos hj2, turned_bits _ _ _ (by omega) _ (by omega), win_out _ _ _ (.inl (by omega)), win_out _ _ _ (.inl (by omega))]
        · rw [if_neg hj2, if_neg hj2, turned_bits _ _ _ (by omega) _ (by omega)]
          have e4 : 1088 + k = 960 + k + 128 := by omega
          rw [e4, win_move]
    intro e
    have hok := openS_ok (taleOf (fl (imageB id p) ((if second then 1088 else 64) + k) t 32)) (by omega) (by rw [htl]; exact e)
    rw [hop] at hok
    injection hok with _ h5
    cases h5

theorem dec_sums (id : Int) (bs : List UInt8) (h0 : 0 ≤ id ∧ id ≤ 31) (hl : bs.length = 256) (h : tornB bs = false ∧ ¬ leN ((taleOf bs).drop 236) = crc ((taleOf bs).take 236)) : decE id bs = 3 := by
  unfold decE
  rw [if_neg (by simpa using h0), if_neg (by omega), if_neg (by omega), if_neg (by simp [h.1]), if_pos h.2]
end Go.Proofs.Ytkbigineepohnab
