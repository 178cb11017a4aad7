/-
  Plain facts on what 236 bytes tell of a page's cells, and when they are a right page's, of no program.
-/
import Derived.Test.YtkbigineepohnaaPageDecMath
namespace Go.Proofs.Ytkbigineepohnaa
open Go.RowKit
set_option linter.unusedVariables false

/-- The cells that bytes tell; the first of them. -/
def tellP (t : List UInt8) : Pg := ⟨0, usedAt t, cutAt t⟩
def prefT (t : List UInt8) (j : Nat) : Pg := ⟨0, fun i => decide (i < j) && usedAt t i, fun i => if i < j then cutAt t i else ⟨#[]⟩⟩
/-- Whether bytes are right as cells: no length is too great, and behind the values there are zeros. -/
abbrev okT (t : List UInt8) : Prop := (∀ i, i < 8 → lenAt t i ≤ 20) ∧ ∀ x ∈ t.drop (posAt t 8), x = 0

theorem prefT_zero (t : List UInt8) : (prefT t 0).same Pg.zero := by
  refine ⟨rfl, fun i hi => ⟨?_, ?_⟩⟩
  · show (decide (i < 0) && usedAt t i) = false
    simp
  · show (if i < 0 then cutAt t i else ⟨#[]⟩) = _
    rw [if_neg (by omega)]
    rfl
theorem prefT_full (t : List UInt8) : (prefT t 8).same (tellP t) := by
  refine ⟨rfl, fun i hi => ⟨?_, ?_⟩⟩
  · show (decide (i < 8) && usedAt t i) = usedAt t i
    simp [hi]
  · show (if i < 8 then cutAt t i else ⟨#[]⟩) = cutAt t i
    rw [if_pos hi]
theorem prefT_skip (t : List UInt8) (j : Nat) (h : usedAt t j = false) : (prefT t (j + 1)).same (prefT t j) := by
  refine ⟨rfl, fun i hi => ⟨?_, ?_⟩⟩
  · show (decide (i < j + 1) && usedAt t i) = (decide (i < j) && usedAt t i)
    by_cases hij : i = j
    · subst hij
      simp [h]
    · have e : decide (i < j + 1) = decide (i < j) := decide_eq_decide.2 (by omega)
      rw [e]
  · show (if i < j + 1 then cutAt t i else ⟨#[]⟩) = if i < j then cutAt t i else ⟨#[]⟩
    by_cases hij : i = j
    · subst hij
      rw [if_pos (by omega), if_neg (by omega), cut_unused _ _ h]
    · by_cases h2 : i < j
      · rw [if_pos (by omega), if_pos h2]
      · rw [if_neg (by omega), if_neg h2]
theorem prefT_more (t : List UInt8) (j : Nat) (h : usedAt t j = true) :
    Pg.same ⟨(prefT t j).l, fun i => if i = j then true else (prefT t j).u i, fun i => if i = j then cutAt t j else (prefT t j).s i⟩ (prefT t (j + 1)) := by
  refine ⟨rfl, fun i hi => ⟨?_, ?_⟩⟩
  · show (if i = j then true else (decide (i < j) && usedAt t i)) = (decide (i < j + 1) && usedAt t i)
    by_cases hij : i = j
    · subst hij
      simp [h]
    · have e : decide (i < j + 1) = decide (i < j) := decide_eq_decide.2 (by omega)
      rw [e, if_neg hij]
  · show (if i = j then cutAt t j else if i < j then cutAt t i else ⟨#[]⟩) = if i < j + 1 then cutAt t i else ⟨#[]⟩
    by_cases hij : i = j
    · subst hij
      rw [if_pos rfl, if_pos (by omega)]
    · rw [if_neg hij]
      by_cases h2 : i < j
      · rw [if_pos h2, if_pos (by omega)]
      · rw [if_neg h2, if_neg (by omega)]

/-- The first 236 bytes tell the same. -/
theorem nAt_take (t : List UInt8) (i : Nat) (h : i < 8) : nAt (t.take 236) i = nAt t i := by
  unfold nAt
  congr 1
  simp only [List.getD, List.getElem?_take]
  rw [if_pos (by omega)]
theorem usedAt_take (t : List UInt8) (i : Nat) (h : i < 8) : usedAt (t.take 236) i = usedAt t i := by
  unfold usedAt
  rw [nAt_take t i h]
theorem lenAt_take (t : List UInt8) (i : Nat) (h : i < 8) : lenAt (t.take 236) i = lenAt t i := by
  unfold lenAt
  rw [usedAt_take t i h, nAt_take t i h]
theorem posAt_take (t : List UInt8) : ∀ (i : Nat), i ≤ 8 → posAt (t.take 236) i = posAt t i
  | 0, _ => rfl
  | i + 1, h => by rw [posAt, posAt, posAt_take t i (by omega), lenAt_take t i (by omega)]
theorem cutAt_take (t : List UInt8) (i : Nat) (h : i < 8) (hl : posAt t i + lenAt t i ≤ 236) : cutAt (t.take 236) i = cutAt t i := by
  unfold cutAt
  rw [posAt_take t i (by omega), lenAt_take t i h]
  congr 2
  rw [List.drop_take, List.take_take, Nat.min_eq_left (by omega)]

theorem be_take_self : ∀ (k : Nat) (xs : List UInt8), xs.length = k → beB k (be xs) = xs
  | 0, xs, h => by
    rw [List.eq_nil_of_length_eq_zero h]
    rfl
  | k + 1, xs, h => by
    cases xs with
    | nil => simp at h
    | cons x xs =>
      simp only [List.length_cons, Nat.add_right_cancel_iff] at h
      have h1 := be_lt xs
      rw [h] at h1
      have hp : 0 < 256 ^ k := Nat.pow_pos (by omega)
      rw [be_cons, h, beB_cons, beB_low, Nat.mul_comm, Nat.mul_add_div hp, Nat.div_eq_of_lt h1, Nat.add_zero, Nat.mul_add_mod, Nat.mod_eq_of_lt h1, be_take_self k xs h]
      congr 1
      apply UInt8.toNat_inj.1
      rw [toNat_ofNat]
      have := x.toNat_lt
      omega

theorem lenB_told (t : List UInt8) (i : Nat) (hl : lenAt t i ≤ 20) (hc : (cutAt t i).size = lenAt t i) : lenB (usedAt t i) (cutAt t i) = t.getD (2 + i) 0 := by
  unfold lenB
  have hn : (t.getD (2 + i) 0).toNat = nAt t i := rfl
  apply UInt8.toNat_inj.1
  rw [hn]
  cases hu : usedAt t i with
  | true =>
    have e : lenAt t i = nAt t i := by unfold lenAt; rw [hu]; rfl
    simp only [if_true]
    rw [hc, toNat_ofNat, e]
    omega
  | false =>
    have h : nAt t i = 255 := by
      unfold usedAt at hu
      simpa using hu
    rw [h]
    rfl

theorem lens_told (t : List UInt8) (ht : t.length = 236) (hok : ∀ i, i < 8 → lenAt t i ≤ 20) : lensB (tellP t) 8 = (t.drop 2).take 8 := by
  apply List.ext_getElem
  · rw [lensB_length, List.length_take, List.length_drop]
    omega
  · intro i h1 h2
    rw [lensB_length] at h1
    have hp := pos_le t i (fun k hk => hok k (by omega))
    have hc : (cutAt t i).size = lenAt t i := by
      have h5 := hok i h1
      unfold cutAt
      rw [size_mk, List.length_take, List.length_drop, ht]
      omega
    have e := lenB_told t i (hok i h1) hc
    simp only [lensB, List.getElem_map, List.getElem_range, List.getElem_take, List.getElem_drop]
    show lenB (usedAt t i) (cutAt t i) = _
    rw [e, List.getD, List.getElem?_eq_getElem (by omega)]
    rfl

theorem vals_told (t : List UInt8) (ht : t.length = 236) (hok : ∀ i, i < 8 → lenAt t i ≤ 20) : ∀ (k : Nat), k ≤ 8 → valsB (tellP t) k = (t.drop 10).take (posAt t k - 10) ∧ 10 ≤ posAt t k
  | 0, _ => ⟨by simp [valsB, posAt], Nat.le_refl _⟩
  | k + 1, h => by
    obtain ⟨ih, hge⟩ := vals_told t ht hok k (by omega)
    have hp := pos_le t k (fun i hi => hok i (by omega))
    have hl := hok k (by omega)
    refine ⟨?_, by rw [posAt]; omega⟩
    rw [valsB_succ, ih]
    have e : valB ((tellP t).u k) ((tellP t).s k) = (t.drop (posAt t k)).take (lenAt t k) := by
      show valB (usedAt t k) (cutAt t k) = _
      unfold valB
      cases hu : usedAt t k with
      | true => rfl
      | false =>
        have e0 : lenAt t k = 0 := by unfold lenAt; rw [hu]; rfl
        rw [e0]
        rfl
    rw [e, posAt]
    have e2 : posAt t k + lenAt t k - 10 = (posAt t k - 10) + lenAt t k := by omega
    rw [e2, List.take_add, List.drop_drop]
    congr 3
    omega

/-- Bytes that are right as cells are the bytes of the cells that they tell. -/
theorem body_told (t : List UInt8) (ht : t.length = 236) (hok : okT t) : bodyB (beAt t 0 2) (tellP t) = t := by
  have h1 := lens_told t ht hok.1
  obtain ⟨h2, h3⟩ := vals_told t ht hok.1 8 (by omega)
  have hp := pos_le t 8 hok.1
  have h4 : t.drop (posAt t 8) = List.replicate (236 - posAt t 8) 0 := by
    rw [List.eq_replicate_iff]
    exact ⟨by rw [List.length_drop, ht], hok.2⟩
  have e2 : beB 2 (beAt t 0 2) = t.take 2 := by
    unfold beAt
    rw [List.drop_zero]
    exact be_take_self 2 _ (by rw [List.length_take]; omega)
  have hh : headB (beAt t 0 2) (tellP t) = t.take (posAt t 8) := by
    unfold headB
    rw [e2, h1, h2]
    have e3 : posAt t 8 = 2 + (8 + (posAt t 8 - 10)) := by omega
    rw [e3, List.take_add, List.take_add, List.drop_drop, List.append_assoc]
    congr 3
    omega
  unfold bodyB
  rw [hh, List.length_take, Nat.min_eq_left (by omega), ← h4, List.take_append_drop]

theorem tell_right (t : List UInt8) (ht : t.length = 236) (hok : okT t) (l : Nat) (hl : l ≤ maxP) : Pg.right ⟨l, usedAt t, cutAt t⟩ := by
  refine ⟨hl, fun i hi => ⟨?_, fun hu => ?_⟩⟩
  · show (cutAt t i).size ≤ 20
    have := hok.1 i hi
    unfold cutAt
    rw [size_mk, List.length_take]
    omega
  · show (cutAt t i).size = 0
    rw [cut_unused t i hu]
    rfl

theorem same_body {p q : Pg} (h : ∀ i, i < 8 → p.u i = q.u i ∧ p.s i = q.s i) (id : Nat) : bodyB id p = bodyB id q := by
  have h1 : Pg.same ⟨0, p.u, p.s⟩ ⟨0, q.u, q.s⟩ := ⟨rfl, h⟩
  have e1 : lensB p 8 = lensB q 8 := h1.lens
  have e2 : valsB p 8 = valsB q 8 := h1.vals
  unfold bodyB headB
  rw [e1, e2]

/-- The cells that a whole image tells are told by the first 236 bytes of its tale. -/
theorem scan_tell (bs : List UInt8) (hb : bs.length = 256) (hok : okT ((taleOf bs).take 236)) : ∀ i, i < 8 → (scanP bs).u i = (tellP ((taleOf bs).take 236)).u i ∧ (scanP bs).s i = (tellP ((taleOf bs).take 236)).s i := by
  intro i hi
  have hp := pos_le (taleOf bs) i (fun k hk => by rw [← lenAt_take _ k (by omega)]; exact hok.1 k (by omega))
  have hl : lenAt (taleOf bs) i ≤ 20 := by rw [← lenAt_take _ i hi]; exact hok.1 i hi
  exact ⟨(usedAt_take (taleOf bs) i hi).symm, (cutAt_take (taleOf bs) i hi (by omega)).symm⟩

/-- When 256 bytes, not torn, with the right sum, are a right page's image. -/
theorem tell_iff (id : Nat) (bs : List UInt8) (hid : id < 65536) (hb : bs.length = 256) (ht : tornB bs = false) (hs : leN ((taleOf bs).drop 236) = crc ((taleOf bs).take 236)) :
    ((scanP bs).right ∧ imageB id (scanP bs) = bs) ↔ (okT ((taleOf bs).take 236) ∧ beAt ((taleOf bs).take 236) 0 2 = id ∧ beAt bs 0 8 ≤ maxP) := by
  have htl := taleOf_length bs hb
  have hl : ((taleOf bs).take 236).length = 236 := by rw [List.length_take]; omega
  constructor
  · rintro ⟨hr, hi⟩
    have h1 := (image_parts id (scanP bs) hr).2.2
    rw [hi] at h1
    have hbl := bodyB_length id (scanP bs) hr
    have h2 : (taleOf bs).take 236 = bodyB id (scanP bs) := by
      rw [h1]
      unfold taleB
      rw [List.take_left' hbl]
    refine ⟨⟨fun i hi2 => ?_, ?_⟩, ?_, hr.1⟩
    · rw [lenAt_take _ i hi2, h1, (tale_used id _ hr i hi2).2]
      exact (hr.2 i hi2).1
    · rw [posAt_take _ 8 (by omega)]
      have h3 : posAt (taleOf bs) 8 = (headB id (scanP bs)).length := by rw [h1, tale_pos id _ hr 8 (by omega), headB_length]
      rw [h3, h2]
      unfold bodyB
      rw [List.drop_left' rfl]
      intro x hx
      exact List.eq_of_mem_replicate hx
    · rw [h2]
      unfold beAt bodyB headB
      rw [List.drop_zero, List.append_assoc, List.append_assoc, List.take_left' (beB_length 2 id)]
      exact be_beB 2 id (by omega)
  · rintro ⟨hok, hi, hm⟩
    have hsc := scan_tell bs hb hok
    have hr0 := tell_right _ hl hok (beAt bs 0 8) hm
    have hr : (scanP bs).right := Pg.same.right (p := ⟨beAt bs 0 8, usedAt ((taleOf bs).take 236), cutAt ((taleOf bs).take 236)⟩) ⟨rfl, fun i hi => ⟨(hsc i hi).1.symm, (hsc i hi).2.symm⟩⟩ hr0
    refine ⟨hr, ?_⟩
    have h1 := body_told _ hl hok
    rw [hi, ← same_body hsc id] at h1
    have h2 : taleB id (scanP bs) = taleOf bs := by
      unfold taleB
      rw [h1]
      have h5 := (seal_eq_iff (taleOf bs) (by omega)).2
      rw [htl] at h5
      exact h5 hs
    have hst : bs.take 8 = (bs.drop 128).take 8 := by
      have h6 : ¬ (bs.length = 256 ∧ bs.take 8 ≠ (bs.drop 128).take 8) := by
        unfold tornB at ht
        simpa using ht
      by_cases h7 : bs.take 8 = (bs.drop 128).take 8
      · exact h7
      · exact absurd ⟨hb, h7⟩ h6
    have hl8 : beB 8 (scanP bs).l = bs.take 8 := by
      show beB 8 (beAt bs 0 8) = _
      unfold beAt
      rw [List.drop_zero]
      exact be_take_self 8 _ (by rw [List.length_take]; omega)
    unfold imageB
    rw [h2, hl8]
    have l1 : ((bs.drop 8).take 120).length = 120 := by rw [List.length_take, List.length_drop]; omega
    have e1 : (taleOf bs).take 120 = (bs.drop 8).take 120 := by unfold taleOf; rw [List.take_left' l1]
    have e2 : (taleOf bs).drop 120 = bs.drop 136 := by unfold taleOf; rw [List.drop_left' l1]
    rw [e1, e2]
    have e3 : bs.take 8 ++ (bs.drop 8).take 120 ++ bs.take 8 ++ bs.drop 136 = bs.take 8 ++ (bs.drop 8).take 120 ++ (bs.drop 128).take 8 ++ bs.drop 136 := by rw [← hst]
    rw [e3, ← List.take_add, ← List.take_add, List.take_append_drop]
end Go.Proofs.Ytkbigineepohnaa
