/-
  Plain facts on what bytes tell of a page: the page cell by cell, of no program.
-/
import Derived.Test.YtcehppekcbbaaabPageMath
namespace Go.Proofs.Ytcehppekcbbaaab
open Go.RowKit
set_option linter.unusedVariables false

/-- The first cells of the page that bytes tell. -/
def prefP (bs : List UInt8) (j : Nat) : Pg := ⟨beAt bs 0 8, fun i => decide (i < j) && usedAt (taleOf bs) i, fun i => if i < j then cutAt (taleOf bs) i else ⟨#[]⟩⟩

theorem pref_full (bs : List UInt8) : (prefP bs 8).same (scanP bs) := by
  refine ⟨rfl, fun i hi => ⟨?_, ?_⟩⟩
  · show (decide (i < 8) && usedAt (taleOf bs) i) = usedAt (taleOf bs) i
    simp [hi]
  · show (if i < 8 then cutAt (taleOf bs) i else ⟨#[]⟩) = cutAt (taleOf bs) i
    rw [if_pos hi]

theorem pref_zero (bs : List UInt8) : pgA (prefP bs 0) = pgA ⟨beAt bs 0 8, Pg.zero.u, Pg.zero.s⟩ := by
  refine same_pgA ⟨rfl, fun i hi => ⟨?_, ?_⟩⟩
  · show (decide (i < 0) && usedAt (taleOf bs) i) = false
    simp
  · show (if i < 0 then cutAt (taleOf bs) i else ⟨#[]⟩) = _
    rw [if_neg (by omega)]
    rfl

theorem cut_unused (t : List UInt8) (j : Nat) (h : usedAt t j = false) : cutAt t j = ⟨#[]⟩ := by
  unfold cutAt lenAt
  rw [h]
  simp

theorem pref_skip (bs : List UInt8) (j : Nat) (h : usedAt (taleOf bs) j = false) : pgA (prefP bs (j + 1)) = pgA (prefP bs j) := by
  refine same_pgA ⟨rfl, fun i hi => ⟨?_, ?_⟩⟩
  · show (decide (i < j + 1) && usedAt (taleOf bs) i) = (decide (i < j) && usedAt (taleOf bs) i)
    by_cases hij : i = j
    · subst hij
      simp [h]
    · have e : decide (i < j + 1) = decide (i < j) := decide_eq_decide.2 (by omega)
      rw [e]
  · show (if i < j + 1 then cutAt (taleOf bs) i else ⟨#[]⟩) = if i < j then cutAt (taleOf bs) i else ⟨#[]⟩
    by_cases hij : i = j
    · subst hij
      rw [if_pos (by omega), if_neg (by omega), cut_unused _ _ h]
    · by_cases h2 : i < j
      · rw [if_pos (by omega), if_pos h2]
      · rw [if_neg (by omega), if_neg h2]

theorem pgA_set (p : Pg) (j : Nat) (hj : j < 8) (b : Bool) (s : ByteArray) :
    ((pgA p).setIfInBounds (1 + j * 2) (.bool b)).setIfInBounds (1 + j * 2 + 1) (.string s) = pgA ⟨p.l, fun i => if i = j then b else p.u i, fun i => if i = j then s else p.s i⟩ := by
  rcases lt8 hj with rfl | rfl | rfl | rfl | rfl | rfl | rfl | rfl <;> simp [pgA]

theorem pref_more (bs : List UInt8) (j : Nat) (h : usedAt (taleOf bs) j = true) :
    pgA ⟨(prefP bs j).l, fun i => if i = j then true else (prefP bs j).u i, fun i => if i = j then cutAt (taleOf bs) j else (prefP bs j).s i⟩ = pgA (prefP bs (j + 1)) := by
  refine same_pgA ⟨rfl, fun i hi => ⟨?_, ?_⟩⟩
  · show (if i = j then true else (decide (i < j) && usedAt (taleOf bs) i)) = (decide (i < j + 1) && usedAt (taleOf bs) i)
    by_cases hij : i = j
    · subst hij
      simp [h]
    · have e : decide (i < j + 1) = decide (i < j) := decide_eq_decide.2 (by omega)
      rw [e, if_neg hij]
  · show (if i = j then cutAt (taleOf bs) j else if i < j then cutAt (taleOf bs) i else ⟨#[]⟩) = if i < j + 1 then cutAt (taleOf bs) i else ⟨#[]⟩
    by_cases hij : i = j
    · subst hij
      rw [if_pos rfl, if_pos (by omega)]
    · rw [if_neg hij]
      by_cases h2 : i < j
      · rw [if_pos h2, if_pos (by omega)]
      · rw [if_neg h2, if_neg (by omega)]

theorem pos_le (t : List UInt8) (j : Nat) (h : ∀ k, k < j → lenAt t k ≤ 20) : posAt t j ≤ 10 + 20 * j := by
  induction j with
  | zero => exact Nat.le_refl _
  | succ j ih =>
    have h1 := ih (fun k hk => h k (by omega))
    have h2 := h j (by omega)
    rw [posAt]
    omega

theorem cut_size (t : List UInt8) (j : Nat) (ht : t.length = 240) : (cutAt t j).size = min (lenAt t j) (240 - posAt t j) := by
  unfold cutAt
  rw [size_mk, List.length_take, List.length_drop, ht]

/-- A cell's byte between 21 and 254: no right page. -/
theorem scan_wrong (bs : List UInt8) (j : Nat) (hb : bs.length = 256) (hj : j < 8) (h : ∀ k, k < j → lenAt (taleOf bs) k ≤ 20) (hl : 20 < lenAt (taleOf bs) j) : ¬ (scanP bs).right := by
  intro hr
  have h1 := (hr.2 j hj).1
  have h2 := cut_size (taleOf bs) j (taleOf_length bs hb)
  have h3 := pos_le (taleOf bs) j h
  have h4 : (scanP bs).s j = cutAt (taleOf bs) j := rfl
  rw [h4, h2] at h1
  omega

theorem nAt_str (s : ByteArray) (T : ByteArray) (hT : T = ⟨(taleOf s.data.toList).toArray⟩) (j : Nat) (h : 2 + j < T.size) : T[2 + j].toNat = nAt (taleOf s.data.toList) j := by
  unfold nAt
  rw [← getD_str T (2 + j) h, hT]

theorem cut_str (s : ByteArray) (T : ByteArray) (hT : T = ⟨(taleOf s.data.toList).toArray⟩) (j : Nat) (h : posAt (taleOf s.data.toList) j + lenAt (taleOf s.data.toList) j ≤ T.size) :
    T.extract (posAt (taleOf s.data.toList) j) (posAt (taleOf s.data.toList) j + lenAt (taleOf s.data.toList) j) = cutAt (taleOf s.data.toList) j := by
  rw [extract_eq T _ _ h, hT]
  rfl
theorem len_used (t : List UInt8) (j m : Nat) (hm : nAt t j = m) (h : m ≠ 255) : lenAt t j = m ∧ usedAt t j = true := by
  have hu : usedAt t j = true := by unfold usedAt; rw [hm]; simp [h]
  exact ⟨by unfold lenAt; rw [hu, if_pos rfl, hm], hu⟩
theorem len_unused (t : List UInt8) (j : Nat) (hm : nAt t j = 255) : lenAt t j = 0 ∧ usedAt t j = false := by
  have hu : usedAt t j = false := by unfold usedAt; rw [hm]; simp
  exact ⟨by unfold lenAt; rw [hu]; simp, hu⟩

/-- What 'Decode' answers behind the sum. -/
theorem dec_last (id : Int) (bs : List UInt8) (h0 : 0 ≤ id ∧ id ≤ 31) (hb : bs.length = 256) (ht : tornB bs = false) (hs : leN ((taleOf bs).drop 236) = crc ((taleOf bs).take 236)) :
    decE id bs = if (scanP bs).right ∧ imageB id.toNat (scanP bs) = bs then 0 else 2 := by
  unfold decE
  rw [if_neg (by simpa using h0), if_neg (by omega), if_neg (by omega), if_neg (by simp [ht]), if_neg (by simp [hs])]
end Go.Proofs.Ytcehppekcbbaaab
