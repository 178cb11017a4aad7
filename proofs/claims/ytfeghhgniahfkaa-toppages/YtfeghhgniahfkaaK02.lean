/-
  Texts that lean on one another, one behind the other: each opens with its own remark.
-/
import Derived.Test.YtfeghhgniahfkaaK00
import Derived.Test.YtfeghhgniahfkaaK01

/-
  The contracts of package page's Torn and Stamp.
-/
namespace Go.Proofs.Ytfeghhgniahfkaa
open Go.RowKit
set_option linter.unusedVariables false

theorem take8 (bs : List UInt8) (h : bs.length = 256) (p : Nat) (hp : p + 8 ≤ 256) : takeS bs (p : Int) 8 = (((beAt bs p 8 : Nat) : Int), 0) := by
  rw [takeS_ok bs p 8 (by omega) (by omega), Int.toNat_natCast]
  rfl

set_option maxRecDepth 4000 in
set_option maxHeartbeats 400000 in
theorem stamps_any (a : Option Addr) (cap : Nat) (bs : List UInt8) (w : World) (hB : IsB w a 256 bs) :
    Calls Try.prog 63 #[.slice a 256 cap] w fun e w' => e = .returned (.tuple #[.int .u64 (beAt bs 0 8 : Nat), .int .u64 (beAt bs 128 8 : Nat)]) ∧ w = w' := by
  have R1 := take_any a 256 cap bs 0 8 w hB (by omega) (by omega)
  have R2 := take_any a 256 cap bs 128 8 w hB (by omega) (by omega)
  have e1 := take8 bs hB.1 0 (by omega)
  have e2 := take8 bs hB.1 128 (by omega)
  rw [show takeS bs 0 8 = _ from e1] at R1
  rw [show takeS bs 128 8 = _ from e2] at R2
  have H1 := hide R1
  have H2 := hide R2
  clear R1 R2 e1 e2 hB
  go_enter Try.func63, Try.ntmps63
  go_wp2_with fail
  refine H1.out.mono ?_
  rintro e w1 ⟨rfl, rfl⟩
  go_wp2_with fail
  refine H2.out.mono ?_
  rintro e w1 ⟨rfl, rfl⟩
  go_wp2
  go_ret2
  exact ⟨rfl, rfl⟩

theorem be_inj : ∀ (k : Nat) (a b : List UInt8), a.length = k → b.length = k → be a = be b → a = b
  | 0, a, b, ha, hb, _ => by
    rw [List.eq_nil_of_length_eq_zero ha, List.eq_nil_of_length_eq_zero hb]
  | k + 1, a, b, ha, hb, h => by
    cases a with
    | nil => simp at ha
    | cons x xs =>
      cases b with
      | nil => simp at hb
      | cons y ys =>
        simp only [List.length_cons, Nat.add_right_cancel_iff] at ha hb
        rw [be_cons, be_cons, ha, hb] at h
        have h1 := be_lt xs
        have h2 := be_lt ys
        rw [ha] at h1
        rw [hb] at h2
        have hp : 0 < 256 ^ k := Nat.pow_pos (by omega)
        have e1 : (x.toNat * 256 ^ k + be xs) / 256 ^ k = x.toNat := by
          rw [Nat.mul_comm, Nat.mul_add_div hp, Nat.div_eq_of_lt h1, Nat.add_zero]
        have e2 : (y.toNat * 256 ^ k + be ys) / 256 ^ k = y.toNat := by
          rw [Nat.mul_comm, Nat.mul_add_div hp, Nat.div_eq_of_lt h2, Nat.add_zero]
        have e3 : x.toNat = y.toNat := by rw [← e1, ← e2, h]
        have e4 : be xs = be ys := by rw [e3] at h; omega
        rw [UInt8.toNat_inj.1 e3, be_inj k xs ys ha hb e4]

theorem torn_be (bs : List UInt8) (h : bs.length = 256) : tornB bs = ((beAt bs 0 8 : Nat) != (beAt bs 128 8 : Nat)) := by
  rw [Bool.eq_iff_iff, bne_iff_ne]
  unfold tornB
  rw [decide_eq_true_eq]
  have l1 : (bs.take 8).length = 8 := by rw [List.length_take]; omega
  have l2 : ((bs.drop 128).take 8).length = 8 := by rw [List.length_take, List.length_drop]; omega
  have e0 : beAt bs 0 8 = be (bs.take 8) := by unfold beAt; rw [List.drop_zero]
  have e1 : beAt bs 128 8 = be ((bs.drop 128).take 8) := rfl
  rw [e0, e1]
  refine ⟨fun g k => g.2 (be_inj 8 _ _ l1 l2 k), fun g => ⟨h, fun k => g (by rw [k])⟩⟩
theorem torn_short (bs : List UInt8) (h : ¬ bs.length = 256) : tornB bs = false := by
  unfold tornB
  rw [decide_eq_false_iff_not]
  exact fun g => h g.1

set_option maxRecDepth 4000 in
set_option maxHeartbeats 400000 in
theorem torn_same (a : Option Addr) (len cap : Nat) (bs : List UInt8) (w : World) (hB : IsB w a len bs) (hl : len ≤ 140737488355328) :
    Calls Try.prog 32 #[.slice a len cap] w fun e w' => e = .returned (.bool (tornB bs)) ∧ w = w' := by
  by_cases h : len = 256
  · subst h
    have H := hide (stamps_any a cap bs w hB)
    have e := torn_be bs hB.1
    rw [e]
    clear hB e
    generalize beAt bs 0 8 = x at *
    generalize beAt bs 128 8 = y at *
    have e3 : (((x : Nat) : Int) != ((y : Nat) : Int)) = (x != y) := by
      rw [Bool.eq_iff_iff, bne_iff_ne, bne_iff_ne]
      omega
    go_enter Try.func32, Try.ntmps32
    go_wp2_with fail
    refine H.out.mono ?_
    rintro e w1 ⟨rfl, rfl⟩
    go_wp2
    go_ret
    rw [← e3]
    exact ⟨rfl, rfl⟩
  · have e := torn_short bs (by rw [hB.1]; exact h)
    rw [e]
    have h1 : (((len : Nat) : Int) != 256) = true := by rw [bne_iff_ne]; omega
    clear hB e h
    go_enter Try.func32, Try.ntmps32
    go_wp2
    go_ret
    exact ⟨rfl, rfl⟩

theorem torn_any (a : Option Addr) (len cap : Nat) (bs : List UInt8) (w : World) (hB : IsB w a len bs) (hl : len ≤ 140737488355328) (hcap : len ≤ cap) :
    Calls Try.prog 32 #[.slice a len cap] w fun e w' => e = .returned (.bool (tornB bs)) ∧ Below w.heap.size w w' :=
  (torn_same a len cap bs w hB hl).mono fun e w' ⟨he, hw⟩ => ⟨he, by rw [← hw]; exact Below.refl _ _⟩

set_option maxRecDepth 4000 in
set_option maxHeartbeats 400000 in
theorem stamp_same (a : Option Addr) (len cap : Nat) (bs : List UInt8) (w : World) (hB : IsB w a len bs) (hl : len ≤ 140737488355328) :
    Calls Try.prog 47 #[.slice a len cap] w fun e w' => e = .returned (.tuple #[.int .u64 (stampB bs).1, .bool (stampB bs).2]) ∧ w = w' := by
  by_cases h : len = 256
  · subst h
    have HS := hide (stamps_any a cap bs w hB)
    have T := torn_same a 256 cap bs w hB hl
    cases ht : tornB bs with
    | true =>
      rw [ht] at T
      have HT := hide T
      have e : stampB bs = (0, false) := by unfold stampB; rw [if_neg (fun g => by rw [ht] at g; exact absurd g.2 (by decide))]
      rw [e]
      clear e T ht hB HS
      go_enter Try.func47, Try.ntmps47
      go_wp2_with fail
      refine HT.out.mono ?_
      rintro e w1 ⟨rfl, rfl⟩
      go_wp2
      go_ret2
      exact ⟨rfl, rfl⟩
    | false =>
      rw [ht] at T
      have HT := hide T
      have e : stampB bs = (beAt bs 0 8, true) := by unfold stampB; rw [if_pos ⟨hB.1, ht⟩]
      rw [e]
      clear e T ht hB
      generalize beAt bs 0 8 = x at *
      generalize beAt bs 128 8 = y at *
      go_enter Try.func47, Try.ntmps47
      go_wp2_with fail
      refine HT.out.mono ?_
      rintro e w1 ⟨rfl, rfl⟩
      go_wp2_with fail
      refine HS.out.mono ?_
      rintro e w1 ⟨rfl, rfl⟩
      go_wp2
      go_ret2
      exact ⟨rfl, rfl⟩
  · have e : stampB bs = (0, false) := by unfold stampB; rw [if_neg (fun g => h (by rw [← hB.1]; exact g.1))]
    rw [e]
    have h1 : (((len : Nat) : Int) != 256) = true := by rw [bne_iff_ne]; omega
    clear hB e h
    go_enter Try.func47, Try.ntmps47
    go_wp2
    go_ret2
    exact ⟨rfl, rfl⟩

theorem stamp_any (a : Option Addr) (len cap : Nat) (bs : List UInt8) (w : World) (hB : IsB w a len bs) (hl : len ≤ 140737488355328) (hcap : len ≤ cap) :
    Calls Try.prog 47 #[.slice a len cap] w fun e w' => e = .returned (.tuple #[.int .u64 (stampB bs).1, .bool (stampB bs).2]) ∧ Below w.heap.size w w' :=
  (stamp_same a len cap bs w hB hl).mono fun e w' ⟨he, hw⟩ => ⟨he, by rw [← hw]; exact Below.refl _ _⟩
end Go.Proofs.Ytfeghhgniahfkaa

/-
  Plain facts on what bytes tell of a page: the page cell by cell, of no program.
-/
namespace Go.Proofs.Ytfeghhgniahfkaa
open Go.RowKit
set_option linter.unusedVariables false

/-- The first cells of the page that bytes tell. -/
def prefP (bs : List UInt8) (j : Nat) : Pg := ⟨beAt bs 0 8, fun i => decide (i < j) && usedAt (taleOf bs) i, fun i => if i < j then cutAt (taleOf bs) i else ⟨#[]⟩⟩

theorem pref_full (bs : List UInt8) : (prefP bs 8).same (scanP bs) := by
  refine ⟨rfl, fun i hi => ⟨?_, ?_⟩⟩
  · show (decide (i < 8) && usedAt (taleOf bs) i) = usedAt (taleOf bs) i
    simp [hi]
  · show (if i < 8 then cutAt (taleOf bs) i else ⟨#[]⟩) = cutAt (taleOf bs) i
    rw [if_pos hi]

theorem pref_zero (bs : List UInt8) : pgA (prefP bs 0) = pgA ⟨beAt bs 0 8, Pg.zero.u, Pg.zero.s⟩ := by
  refine same_pgA ⟨rfl, fun i hi => ⟨?_, ?_⟩⟩
  · show (decide (i < 0) && usedAt (taleOf bs) i) = false
    simp
  · show (if i < 0 then cutAt (taleOf bs) i else ⟨#[]⟩) = _
    rw [if_neg (by omega)]
    rfl

theorem cut_unused (t : List UInt8) (j : Nat) (h : usedAt t j = false) : cutAt t j = ⟨#[]⟩ := by
  unfold cutAt lenAt
  rw [h]
  simp

theorem pref_skip (bs : List UInt8) (j : Nat) (h : usedAt (taleOf bs) j = false) : pgA (prefP bs (j + 1)) = pgA (prefP bs j) := by
  refine same_pgA ⟨rfl, fun i hi => ⟨?_, ?_⟩⟩
  · show (decide (i < j + 1) && usedAt (taleOf bs) i) = (decide (i < j) && usedAt (taleOf bs) i)
    by_cases hij : i = j
    · subst hij
      simp [h]
    · have e : decide (i < j + 1) = decide (i < j) := decide_eq_decide.2 (by omega)
      rw [e]
  · show (if i < j + 1 then cutAt (taleOf bs) i else ⟨#[]⟩) = if i < j then cutAt (taleOf bs) i else ⟨#[]⟩
    by_cases hij : i = j
    · subst hij
      rw [if_pos (by omega), if_neg (by omega), cut_unused _ _ h]
    · by_cases h2 : i < j
      · rw [if_pos (by omega), if_pos h2]
      · rw [if_neg (by omega), if_neg h2]

theorem pgA_set (p : Pg) (j : Nat) (hj : j < 8) (b : Bool) (s : ByteArray) :
    ((pgA p).setIfInBounds (1 + j * 2) (.bool b)).setIfInBounds (1 + j * 2 + 1) (.string s) = pgA ⟨p.l, fun i => if i = j then b else p.u i, fun i => if i = j then s else p.s i⟩ := by
  rcases lt8 hj with rfl | rfl | rfl | rfl | rfl | rfl | rfl | rfl <;> simp [pgA]

theorem pref_more (bs : List UInt8) (j : Nat) (h : usedAt (taleOf bs) j = true) :
    pgA ⟨(prefP bs j).l, fun i => if i = j then true else (prefP bs j).u i, fun i => if i = j then cutAt (taleOf bs) j else (prefP bs j).s i⟩ = pgA (prefP bs (j + 1)) := by
  refine same_pgA ⟨rfl, fun i hi => ⟨?_, ?_⟩⟩
  · show (if i = j then true else (decide (i < j) && usedAt (taleOf bs) i)) = (decide (i < j + 1) && usedAt (taleOf bs) i)
    by_cases hij : i = j
    · subst hij
      simp [h]
    · have e : decide (i < j + 1) = decide (i < j) := decide_eq_decide.2 (by omega)
      rw [e, if_neg hij]
  · show (if i = j then cutAt (taleOf bs) j else if i < j then cutAt (taleOf bs) i else ⟨#[]⟩) = if i < j + 1 then cutAt (taleOf bs) i else ⟨#[]⟩
    by_cases hij : i = j
    · subst hij
      rw [if_pos rfl, if_pos (by omega)]
    · rw [if_neg hij]
      by_cases h2 : i < j
      · rw [if_pos h2, if_pos (by omega)]
      · rw [if_neg h2, if_neg (by omega)]

theorem pos_le (t : List UInt8) (j : Nat) (h : ∀ k, k < j → lenAt t k ≤ 20) : posAt t j ≤ 10 + 20 * j := by
  induction j with
  | zero => exact Nat.le_refl _
  | succ j ih =>
    have h1 := ih (fun k hk => h k (by omega))
    have h2 := h j (by omega)
    rw [posAt]
    omega

theorem cut_size (t : List UInt8) (j : Nat) (ht : t.length = 240) : (cutAt t j).size = min (lenAt t j) (240 - posAt t j) := by
  unfold cutAt
  rw [size_mk, List.length_take, List.length_drop, ht]

/-- A cell's byte between 21 and 254: no right page. -/
theorem scan_wrong (bs : List UInt8) (j : Nat) (hb : bs.length = 256) (hj : j < 8) (h : ∀ k, k < j → lenAt (taleOf bs) k ≤ 20) (hl : 20 < lenAt (taleOf bs) j) : ¬ (scanP bs).right := by
  intro hr
  have h1 := (hr.2 j hj).1
  have h2 := cut_size (taleOf bs) j (taleOf_length bs hb)
  have h3 := pos_le (taleOf bs) j h
  have h4 : (scanP bs).s j = cutAt (taleOf bs) j := rfl
  rw [h4, h2] at h1
  omega

theorem nAt_str (s : ByteArray) (T : ByteArray) (hT : T = ⟨(taleOf s.data.toList).toArray⟩) (j : Nat) (h : 2 + j < T.size) : T[2 + j].toNat = nAt (taleOf s.data.toList) j := by
  unfold nAt
  rw [← getD_str T (2 + j) h, hT]

theorem cut_str (s : ByteArray) (T : ByteArray) (hT : T = ⟨(taleOf s.data.toList).toArray⟩) (j : Nat) (h : posAt (taleOf s.data.toList) j + lenAt (taleOf s.data.toList) j ≤ T.size) :
    T.extract (posAt (taleOf s.data.toList) j) (posAt (taleOf s.data.toList) j + lenAt (taleOf s.data.toList) j) = cutAt (taleOf s.data.toList) j := by
  rw [extract_eq T _ _ h, hT]
  rfl
theorem len_used (t : List UInt8) (j m : Nat) (hm : nAt t j = m) (h : m ≠ 255) : lenAt t j = m ∧ usedAt t j = true := by
  have hu : usedAt t j = true := by unfold usedAt; rw [hm]; simp [h]
  exact ⟨by unfold lenAt; rw [hu, if_pos rfl, hm], hu⟩
theorem len_unused (t : List UInt8) (j : Nat) (hm : nAt t j = 255) : lenAt t j = 0 ∧ usedAt t j = false := by
  have hu : usedAt t j = false := by unfold usedAt; rw [hm]; simp
  exact ⟨by unfold lenAt; rw [hu]; simp, hu⟩

/-- What 'Decode' answers behind the sum. -/
theorem dec_last (id : Int) (bs : List UInt8) (h0 : 0 ≤ id ∧ id ≤ 31) (hb : bs.length = 256) (ht : tornB bs = false) (hs : leN ((taleOf bs).drop 236) = crc ((taleOf bs).take 236)) :
    decE id bs = if (scanP bs).right ∧ imageB id.toNat (scanP bs) = bs then 0 else 2 := by
  unfold decE
  rw [if_neg (by simpa using h0), if_neg (by omega), if_neg (by omega), if_neg (by simp [ht]), if_neg (by simp [hs])]
end Go.Proofs.Ytfeghhgniahfkaa

/-
  Plain facts on what 236 bytes tell of a page's cells, and when they are a right page's, of no program.
-/
namespace Go.Proofs.Ytfeghhgniahfkaa
open Go.RowKit
set_option linter.unusedVariables false

/-- The cells that bytes tell; the first of them. -/
def tellP (t : List UInt8) : Pg := ⟨0, usedAt t, cutAt t⟩
def prefT (t : List UInt8) (j : Nat) : Pg := ⟨0, fun i => decide (i < j) && usedAt t i, fun i => if i < j then cutAt t i else ⟨#[]⟩⟩
/-- Whether bytes are right as cells: no length is too great, and behind the values there are zeros. -/
abbrev okT (t : List UInt8) : Prop := (∀ i, i < 8 → lenAt t i ≤ 20) ∧ ∀ x ∈ t.drop (posAt t 8), x = 0

theorem prefT_zero (t : List UInt8) : (prefT t 0).same Pg.zero := by
  refine ⟨rfl, fun i hi => ⟨?_, ?_⟩⟩
  · show (decide (i < 0) && usedAt t i) = false
    simp
  · show (if i < 0 then cutAt t i else ⟨#[]⟩) = _
    rw [if_neg (by omega)]
    rfl
theorem prefT_full (t : List UInt8) : (prefT t 8).same (tellP t) := by
  refine ⟨rfl, fun i hi => ⟨?_, ?_⟩⟩
  · show (decide (i < 8) && usedAt t i) = usedAt t i
    simp [hi]
  · show (if i < 8 then cutAt t i else ⟨#[]⟩) = cutAt t i
    rw [if_pos hi]
theorem prefT_skip (t : List UInt8) (j : Nat) (h : usedAt t j = false) : (prefT t (j + 1)).same (prefT t j) := by
  refine ⟨rfl, fun i hi => ⟨?_, ?_⟩⟩
  · show (decide (i < j + 1) && usedAt t i) = (decide (i < j) && usedAt t i)
    by_cases hij : i = j
    · subst hij
      simp [h]
    · have e : decide (i < j + 1) = decide (i < j) := decide_eq_decide.2 (by omega)
      rw [e]
  · show (if i < j + 1 then cutAt t i else ⟨#[]⟩) = if i < j then cutAt t i else ⟨#[]⟩
    by_cases hij : i = j
    · subst hij
      rw [if_pos (by omega), if_neg (by omega), cut_unused _ _ h]
    · by_cases h2 : i < j
      · rw [if_pos (by omega), if_pos h2]
      · rw [if_neg (by omega), if_neg h2]
theorem prefT_more (t : List UInt8) (j : Nat) (h : usedAt t j = true) :
    Pg.same ⟨(prefT t j).l, fun i => if i = j then true else (prefT t j).u i, fun i => if i = j then cutAt t j else (prefT t j).s i⟩ (prefT t (j + 1)) := by
  refine ⟨rfl, fun i hi => ⟨?_, ?_⟩⟩
  · show (if i = j then true else (decide (i < j) && usedAt t i)) = (decide (i < j + 1) && usedAt t i)
    by_cases hij : i = j
    · subst hij
      simp [h]
    · have e : decide (i < j + 1) = decide (i < j) := decide_eq_decide.2 (by omega)
      rw [e, if_neg hij]
  · show (if i = j then cutAt t j else if i < j then cutAt t i else ⟨#[]⟩) = if i < j + 1 then cutAt t i else ⟨#[]⟩
    by_cases hij : i = j
    · subst hij
      rw [if_pos rfl, if_pos (by omega)]
    · rw [if_neg hij]
      by_cases h2 : i < j
      · rw [if_pos h2, if_pos (by omega)]
      · rw [if_neg h2, if_neg (by omega)]

/-- The first 236 bytes tell the same. -/
theorem nAt_take (t : List UInt8) (i : Nat) (h : i < 8) : nAt (t.take 236) i = nAt t i := by
  unfold nAt
  congr 1
  simp only [List.getD, List.getElem?_take]
  rw [if_pos (by omega)]
theorem usedAt_take (t : List UInt8) (i : Nat) (h : i < 8) : usedAt (t.take 236) i = usedAt t i := by
  unfold usedAt
  rw [nAt_take t i h]
theorem lenAt_take (t : List UInt8) (i : Nat) (h : i < 8) : lenAt (t.take 236) i = lenAt t i := by
  unfold lenAt
  rw [usedAt_take t i h, nAt_take t i h]
theorem posAt_take (t : List UInt8) : ∀ (i : Nat), i ≤ 8 → posAt (t.take 236) i = posAt t i
  | 0, _ => rfl
  | i + 1, h => by rw [posAt, posAt, posAt_take t i (by omega), lenAt_take t i (by omega)]
theorem cutAt_take (t : List UInt8) (i : Nat) (h : i < 8) (hl : posAt t i + lenAt t i ≤ 236) : cutAt (t.take 236) i = cutAt t i := by
  unfold cutAt
  rw [posAt_take t i (by omega), lenAt_take t i h]
  congr 2
  rw [List.drop_take, List.take_take, Nat.min_eq_left (by omega)]

theorem be_take_self : ∀ (k : Nat) (xs : List UInt8), xs.length = k → beB k (be xs) = xs
  | 0, xs, h => by
    rw [List.eq_nil_of_length_eq_zero h]
    rfl
  | k + 1, xs, h => by
    cases xs with
    | nil => simp at h
    | cons x xs =>
      simp only [List.length_cons, Nat.add_right_cancel_iff] at h
      have h1 := be_lt xs
      rw [h] at h1
      have hp : 0 < 256 ^ k := Nat.pow_pos (by omega)
      rw [be_cons, h, beB_cons, beB_low, Nat.mul_comm, Nat.mul_add_div hp, Nat.div_eq_of_lt h1, Nat.add_zero, Nat.mul_add_mod, Nat.mod_eq_of_lt h1, be_take_self k xs h]
      congr 1
      apply UInt8.toNat_inj.1
      rw [toNat_ofNat]
      have := x.toNat_lt
      omega

theorem lenB_told (t : List UInt8) (i : Nat) (hl : lenAt t i ≤ 20) (hc : (cutAt t i).size = lenAt t i) : lenB (usedAt t i) (cutAt t i) = t.getD (2 + i) 0 := by
  unfold lenB
  have hn : (t.getD (2 + i) 0).toNat = nAt t i := rfl
  apply UInt8.toNat_inj.1
  rw [hn]
  cases hu : usedAt t i with
  | true =>
    have e : lenAt t i = nAt t i := by unfold lenAt; rw [hu]; rfl
    simp only [if_true]
    rw [hc, toNat_ofNat, e]
    omega
  | false =>
    have h : nAt t i = 255 := by
      unfold usedAt at hu
      simpa using hu
    rw [h]
    rfl

theorem lens_told (t : List UInt8) (ht : t.length = 236) (hok : ∀ i, i < 8 → lenAt t i ≤ 20) : lensB (tellP t) 8 = (t.drop 2).take 8 := by
  apply List.ext_getElem
  · rw [lensB_length, List.length_take, List.length_drop]
    omega
  · intro i h1 h2
    rw [lensB_length] at h1
    have hp := pos_le t i (fun k hk => hok k (by omega))
    have hc : (cutAt t i).size = lenAt t i := by
      have h5 := hok i h1
      unfold cutAt
      rw [size_mk, List.length_take, List.length_drop, ht]
      omega
    have e := lenB_told t i (hok i h1) hc
    simp only [lensB, List.getElem_map, List.getElem_range, List.getElem_take, List.getElem_drop]
    show lenB (usedAt t i) (cutAt t i) = _
    rw [e, List.getD, List.getElem?_eq_getElem (by omega)]
    rfl

theorem vals_told (t : List UInt8) (ht : t.length = 236) (hok : ∀ i, i < 8 → lenAt t i ≤ 20) : ∀ (k : Nat), k ≤ 8 → valsB (tellP t) k = (t.drop 10).take (posAt t k - 10) ∧ 10 ≤ posAt t k
  | 0, _ => ⟨by simp [valsB, posAt], Nat.le_refl _⟩
  | k + 1, h => by
    obtain ⟨ih, hge⟩ := vals_told t ht hok k (by omega)
    have hp := pos_le t k (fun i hi => hok i (by omega))
    have hl := hok k (by omega)
    refine ⟨?_, by rw [posAt]; omega⟩
    rw [valsB_succ, ih]
    have e : valB ((tellP t).u k) ((tellP t).s k) = (t.drop (posAt t k)).take (lenAt t k) := by
      show valB (usedAt t k) (cutAt t k) = _
      unfold valB
      cases hu : usedAt t k with
      | true => rfl
      | false =>
        have e0 : lenAt t k = 0 := by unfold lenAt; rw [hu]; rfl
        rw [e0]
        rfl
    rw [e, posAt]
    have e2 : posAt t k + lenAt t k - 10 = (posAt t k - 10) + lenAt t k := by omega
    rw [e2, List.take_add, List.drop_drop]
    congr 3
    omega

/-- Bytes that are right as cells are the bytes of the cells that they tell. -/
theorem body_told (t : List UInt8) (ht : t.length = 236) (hok : okT t) : bodyB (beAt t 0 2) (tellP t) = t := by
  have h1 := lens_told t ht hok.1
  obtain ⟨h2, h3⟩ := vals_told t ht hok.1 8 (by omega)
  have hp := pos_le t 8 hok.1
  have h4 : t.drop (posAt t 8) = List.replicate (236 - posAt t 8) 0 := by
    rw [List.eq_replicate_iff]
    exact ⟨by rw [List.length_drop, ht], hok.2⟩
  have e2 : beB 2 (beAt t 0 2) = t.take 2 := by
    unfold beAt
    rw [List.drop_zero]
    exact be_take_self 2 _ (by rw [List.length_take]; omega)
  have hh : headB (beAt t 0 2) (tellP t) = t.take (posAt t 8) := by
    unfold headB
    rw [e2, h1, h2]
    have e3 : posAt t 8 = 2 + (8 + (posAt t 8 - 10)) := by omega
    rw [e3, List.take_add, List.take_add, List.drop_drop, List.append_assoc]
    congr 3
    omega
  unfold bodyB
  rw [hh, List.length_take, Nat.min_eq_left (by omega), ← h4, List.take_append_drop]

theorem tell_right (t : List UInt8) (ht : t.length = 236) (hok : okT t) (l : Nat) (hl : l ≤ maxP) : Pg.right ⟨l, usedAt t, cutAt t⟩ := by
  refine ⟨hl, fun i hi => ⟨?_, fun hu => ?_⟩⟩
  · show (cutAt t i).size ≤ 20
    have := hok.1 i hi
    unfold cutAt
    rw [size_mk, List.length_take]
    omega
  · show (cutAt t i).size = 0
    rw [cut_unused t i hu]
    rfl

theorem same_body {p q : Pg} (h : ∀ i, i < 8 → p.u i = q.u i ∧ p.s i = q.s i) (id : Nat) : bodyB id p = bodyB id q := by
  have h1 : Pg.same ⟨0, p.u, p.s⟩ ⟨0, q.u, q.s⟩ := ⟨rfl, h⟩
  have e1 : lensB p 8 = lensB q 8 := h1.lens
  have e2 : valsB p 8 = valsB q 8 := h1.vals
  unfold bodyB headB
  rw [e1, e2]

/-- The cells that a whole image tells are told by the first 236 bytes of its tale. -/
theorem scan_tell (bs : List UInt8) (hb : bs.length = 256) (hok : okT ((taleOf bs).take 236)) : ∀ i, i < 8 → (scanP bs).u i = (tellP ((taleOf bs).take 236)).u i ∧ (scanP bs).s i = (tellP ((taleOf bs).take 236)).s i := by
  intro i hi
  have hp := pos_le (taleOf bs) i (fun k hk => by rw [← lenAt_take _ k (by omega)]; exact hok.1 k (by omega))
  have hl : lenAt (taleOf bs) i ≤ 20 := by rw [← lenAt_take _ i hi]; exact hok.1 i hi
  exact ⟨(usedAt_take (taleOf bs) i hi).symm, (cutAt_take (taleOf bs) i hi (by omega)).symm⟩

/-- When 256 bytes, not torn, with the right sum, are a right page's image. -/
theorem tell_iff (id : Nat) (bs : List UInt8) (hid : id < 65536) (hb : bs.length = 256) (ht : tornB bs = false) (hs : leN ((taleOf bs).drop 236) = crc ((taleOf bs).take 236)) :
    ((scanP bs).right ∧ imageB id (scanP bs) = bs) ↔ (okT ((taleOf bs).take 236) ∧ beAt ((taleOf bs).take 236) 0 2 = id ∧ beAt bs 0 8 ≤ maxP) := by
  have htl := taleOf_length bs hb
  have hl : ((taleOf bs).take 236).length = 236 := by rw [List.length_take]; omega
  constructor
  · rintro ⟨hr, hi⟩
    have h1 := (image_parts id (scanP bs) hr).2.2
    rw [hi] at h1
    have hbl := bodyB_length id (scanP bs) hr
    have h2 : (taleOf bs).take 236 = bodyB id (scanP bs) := by
      rw [h1]
      unfold taleB
      rw [List.take_left' hbl]
    refine ⟨⟨fun i hi2 => ?_, ?_⟩, ?_, hr.1⟩
    · rw [lenAt_take _ i hi2, h1, (tale_used id _ hr i hi2).2]
      exact (hr.2 i hi2).1
    · rw [posAt_take _ 8 (by omega)]
      have h3 : posAt (taleOf bs) 8 = (headB id (scanP bs)).length := by rw [h1, tale_pos id _ hr 8 (by omega), headB_length]
      rw [h3, h2]
      unfold bodyB
      rw [List.drop_left' rfl]
      intro x hx
      exact List.eq_of_mem_replicate hx
    · rw [h2]
      unfold beAt bodyB headB
      rw [List.drop_zero, List.append_assoc, List.append_assoc, List.take_left' (beB_length 2 id)]
      exact be_beB 2 id (by omega)
  · rintro ⟨hok, hi, hm⟩
    have hsc := scan_tell bs hb hok
    have hr0 := tell_right _ hl hok (beAt bs 0 8) hm
    have hr : (scanP bs).right := Pg.same.right (p := ⟨beAt bs 0 8, usedAt ((taleOf bs).take 236), cutAt ((taleOf bs).take 236)⟩) ⟨rfl, fun i hi => ⟨(hsc i hi).1.symm, (hsc i hi).2.symm⟩⟩ hr0
    refine ⟨hr, ?_⟩
    have h1 := body_told _ hl hok
    rw [hi, ← same_body hsc id] at h1
    have h2 : taleB id (scanP bs) = taleOf bs := by
      unfold taleB
      rw [h1]
      have h5 := (seal_eq_iff (taleOf bs) (by omega)).2
      rw [htl] at h5
      exact h5 hs
    have hst : bs.take 8 = (bs.drop 128).take 8 := by
      have h6 : ¬ (bs.length = 256 ∧ bs.take 8 ≠ (bs.drop 128).take 8) := by
        unfold tornB at ht
        simpa using ht
      by_cases h7 : bs.take 8 = (bs.drop 128).take 8
      · exact h7
      · exact absurd ⟨hb, h7⟩ h6
    have hl8 : beB 8 (scanP bs).l = bs.take 8 := by
      show beB 8 (beAt bs 0 8) = _
      unfold beAt
      rw [List.drop_zero]
      exact be_take_self 8 _ (by rw [List.length_take]; omega)
    unfold imageB
    rw [h2, hl8]
    have l1 : ((bs.drop 8).take 120).length = 120 := by rw [List.length_take, List.length_drop]; omega
    have e1 : (taleOf bs).take 120 = (bs.drop 8).take 120 := by unfold taleOf; rw [List.take_left' l1]
    have e2 : (taleOf bs).drop 120 = bs.drop 136 := by unfold taleOf; rw [List.drop_left' l1]
    rw [e1, e2]
    have e3 : bs.take 8 ++ (bs.drop 8).take 120 ++ bs.take 8 ++ bs.drop 136 = bs.take 8 ++ (bs.drop 8).take 120 ++ (bs.drop 128).take 8 ++ bs.drop 136 := by rw [← hst]
    rw [e3, ← List.take_add, ← List.take_add, List.take_append_drop]
end Go.Proofs.Ytfeghhgniahfkaa

/-
  The contracts of package page's taleOf, tellsID and noughts.
-/
namespace Go.Proofs.Ytfeghhgniahfkaa
open Go.RowKit
set_option linter.unusedVariables false

set_option maxRecDepth 4000 in
set_option maxHeartbeats 400000 in
theorem taleOf_any (g off cap : Nat) (bs : List UInt8) (w : World) (hB : IsB w (some ⟨g, off, none⟩) 256 bs) (hcap : 256 ≤ cap) :
    Calls Try.prog 49 #[.slice (some ⟨g, off, none⟩) 256 cap] w fun e w' => ∃ v, e = .returned v ∧ w'.ownsRow w.heap.size 5 1 v 240 (toV (taleOf bs)) ∧ Below w.heap.size w w' := by
  have hmk : ∀ w : World, (Instr.makeSlice 61 (.int .i64 0) (.int .i64 240)).run Try.prog w = .ok (.slice (some ⟨w.heap.size, 0, none⟩) 0 240) (w.alloc (.cells (zrow 240).toArray 5)) := fun w => by
    simpa using run_mk (P := Try.prog) 61 5 Try.underlying61 info8 0 240 (by omega) w
  obtain ⟨b', o', he', hlt', hcell'⟩ := hB.2 (by omega)
  cases he'
  have HB1 := hide (IsB.cut hB.1 hlt' hcell' 8 120 (by omega))
  have HB2 := hide (show IsB w (some ⟨g, off + 136, none⟩) 120 (bs.drop 136) from by
    have h1 := IsB.cut hB.1 hlt' hcell' 136 120 (by omega)
    rw [List.take_of_length_le (by rw [List.length_drop, hB.1]; omega)] at h1
    exact h1)
  have hb0 : Below w.heap.size w (w.alloc (.cells (zrow 240).toArray 5)) := (Below.refl _ _).alloc (Nat.le_refl _) _
  have HO := hide (show (w.alloc (.cells (zrow 240).toArray 5)).ownsRow w.heap.size 5 1 (.slice (some ⟨w.heap.size, 0, none⟩) 0 240) 0 (toV []) from World.ownsRow_made w (zrow 240).toArray 240 (Nat.le_refl _) (by unfold maxLen; omega) (by rw [List.size_toArray, zrow_length]))
  have HT := hide (show [] ++ (bs.drop 8).take 120 ++ bs.drop 136 = taleOf bs by unfold taleOf; rw [List.nil_append])
  have i1 : (256 : Int) ≤ (cap : Int) := by omega
  have i2 : (128 : Int) ≤ (cap : Int) := by omega
  have i3 : ¬ cap = 8 := by omega
  have i4 : ¬ cap = 136 := by omega
  clear hB hcell'
  go_enter Try.func49, Try.ntmps49
  go_wp2_with (at_builtin; refine wpList_append_ob _ rfl (.tmp 5) (.tmp 7) 61 rfl 5 Try.underlying61 info8 w.heap.size _ 0 [] rfl HO.out _ 120 _ _ rfl (HB1.out.below hb0) (fun h => nomatch h) (by omega) hb0.size ?_)
  intro v2 w2 hown2 hg2
  have d2 := hb0.grown hg2 hb0.size (fun k hk => (HO.out.lt k hk).1)
  have HO2 := hide hown2
  have HB22 := hide (HB2.out.below d2)
  clear hown2 hg2 hb0 HO HB1 HB2 hmk
  go_wp2_with (at_builtin; refine wpList_append_ob _ rfl (.tmp 9) (.tmp 11) 61 rfl 5 Try.underlying61 info8 w.heap.size _ _ _ rfl HO2.out _ 120 _ _ rfl HB22.out (fun h => nomatch h) (by omega) d2.size ?_)
  intro v3 w3 hown3 hg3
  have d3 := d2.grown hg3 d2.size (fun k hk => (HO2.out.lt k hk).1)
  have HO3 := hide hown3
  clear hown3 hg3 HO2 HB22 d2
  go_wp2
  go_ret
  exact ⟨_, rfl, by rw [← HT.out]; simpa using HO3.out, d3⟩

set_option maxRecDepth 4000 in
set_option maxHeartbeats 400000 in
theorem tellsID_any (a : Option Addr) (cap : Nat) (t : List UInt8) (id : Nat) (w : World) (hB : IsB w a 236 t) (hid : id < 32) :
    Calls Try.prog 51 #[.slice a 236 cap, .int .i64 id] w fun e w' => e = .returned (.bool (decide (beAt t 0 2 = id))) ∧ w = w' := by
  have R1 := take_any a 236 cap t 0 2 w hB (by omega) (by omega)
  have e1 : takeS t 0 2 = (((beAt t 0 2 : Nat) : Int), 0) := by
    rw [takeS_ok t 0 2 (by omega) (by rw [hB.1]; omega)]
    rfl
  rw [e1] at R1
  have H1 := hide R1
  clear R1 e1 hB
  generalize beAt t 0 2 = x at *
  have e3 : decide (x = id) = (((x : Nat) : Int) == ((id : Nat) : Int)) := by
    rw [Bool.eq_iff_iff, beq_iff_eq, decide_eq_true_eq]
    omega
  rw [e3]
  clear e3
  go_enter Try.func51, Try.ntmps51
  go_wp2_with fail
  refine H1.out.mono ?_
  rintro e w1 ⟨rfl, rfl⟩
  go_wp2
  go_ret
  exact ⟨rfl, rfl⟩

theorem all_more {bs : List UInt8} {j : Nat} (h : ∀ x ∈ bs.take j, x = 0) (hj : j < bs.length) (h0 : (bs.getD j 0).toNat = 0) : ∀ x ∈ bs.take (j + 1), x = 0 := by
  intro x hx
  rw [List.take_succ_eq_append_getElem hj, List.mem_append] at hx
  rcases hx with hx | hx
  · exact h x hx
  · have e : bs.getD j 0 = bs[j] := by simp [List.getD, List.getElem?_eq_getElem hj]
    rw [List.mem_singleton.1 hx, ← e]
    exact UInt8.toNat_inj.1 h0

set_option maxRecDepth 4000 in
set_option maxHeartbeats 400000 in
theorem noughts_any (a : Option Addr) (len cap : Nat) (bs : List UInt8) (w : World) (hB : IsB w a len bs) (hl : len ≤ 140737488355328) :
    Calls Try.prog 69 #[.slice a len cap] w fun e w' => e = .returned (.bool (decide (∀ x ∈ bs, x = 0))) ∧ w = w' := by
  go_enter Try.func69, Try.ntmps69
  go_wp2
  go_loop [7] (fun i => ∃ j : Nat, j ≤ len ∧ i = .int .i64 j ∧ ∀ x ∈ bs.take j, x = 0) (fun i => len - (intOf i).toNat)
  case atStart => exact ⟨0, Nat.zero_le _, rfl, by simp⟩
  case round =>
    obtain ⟨j, hj, rfl, hz⟩ := hrel
    by_cases hlt : j < len
    · obtain ⟨b, off, rfl, hbl, hc⟩ := hB.2 (by omega)
      have hcj := hc j hlt
      have hm : (bs.getD j 0).toNat < 256 := (bs.getD j 0).toNat_lt
      have hjl : j < bs.length := by rw [hB.1]; exact hlt
      by_cases h0 : (bs.getD j 0).toNat = 0
      · have HZ := hide (all_more hz hjl h0)
        rw [h0] at hcj
        clear hc hB hz h0 hm
        go_wp2
        go_round
        case rel => exact ⟨j + 1, by omega, by go_num, HZ.out⟩
        case measure => simp [intOf]; omega
      · have e : decide (∀ x ∈ bs, x = 0) = false := by
          rw [decide_eq_false_iff_not]
          intro h
          apply h0
          have e1 : bs.getD j 0 = bs[j] := by simp [List.getD, List.getElem?_eq_getElem hjl]
          rw [e1, h _ (List.getElem_mem hjl)]
          rfl
        have HE := hide e
        clear hc hB hz e
        generalize (bs.getD j 0).toNat = m at *
        have h1 : (((m : Nat) : Int) != 0) = true := by rw [bne_iff_ne]; omega
        go_wp2
        go_ret
        rw [HE.out]
        exact ⟨rfl, rfl⟩
    · obtain rfl : j = len := by omega
      have e2 := hB.1
      rw [List.take_of_length_le (by omega)] at hz
      have HE := hide (decide_eq_true hz)
      clear hz hB
      go_wp2
      go_ret
      rw [HE.out]
      exact ⟨rfl, rfl⟩
end Go.Proofs.Ytfeghhgniahfkaa

/-
  The contract of package page's cellsOf: the cells that 236 bytes tell.
-/
namespace Go.Proofs.Ytfeghhgniahfkaa
open Go.RowKit
set_option linter.unusedVariables false

theorem csA_set (p : Pg) (j : Nat) (hj : j < 8) (b : Bool) (s : ByteArray) :
    ((csA p).setIfInBounds (j * 2) (.bool b)).setIfInBounds (j * 2 + 1) (.string s) = csA ⟨p.l, fun i => if i = j then b else p.u i, fun i => if i = j then s else p.s i⟩ := by
  rcases lt8 hj with rfl | rfl | rfl | rfl | rfl | rfl | rfl | rfl <;> simp [csA]

/-- The result's cells and the variable's, while the bytes are read. -/
def Tell (w : World) (q : Pg) (x : World) : Prop := RowAt x w.heap.size 33 (csA Pg.zero) ∧ RowAt x (w.heap.size + 1) 33 (csA q) ∧ Below w.heap.size w x
theorem Tell.same {w x : World} {p q : Pg} (h : Tell w p x) (hs : p.same q) : Tell w q x := ⟨h.1, by rw [← same_csA hs]; exact h.2.1, h.2.2⟩
theorem tell_more {w x : World} {t : List UInt8} {j : Nat} (h : Tell w (prefT t j) x) (hj : j < 8) (hu : usedAt t j = true) :
    Tell w (prefT t (j + 1)) ((x.setCell ⟨w.heap.size + 1, j * 2, none⟩ (.bool true)).setCell ⟨w.heap.size + 1, j * 2 + 1, none⟩ (.string (cutAt t j))) := by
  refine ⟨(h.1.other _ _ (by simp)).other _ _ (by simp), ?_, (h.2.2.setCell (by simp) _).setCell (by simp) _⟩
  have h1 := (h.2.1.set (j * 2) (.bool true)).set (j * 2 + 1) (.string (cutAt t j))
  rw [csA_set _ j hj, same_csA (prefT_more t j hu)] at h1
  exact h1
theorem okT_no (t : List UInt8) (j : Nat) (hj : j < 8) (h : 20 < lenAt t j) : ¬ okT t := fun g => by
  have := g.1 j hj
  omega
theorem len_next {t : List UInt8} {j : Nat} (h : ∀ k, k < j → lenAt t k ≤ 20) (hj : lenAt t j ≤ 20) : ∀ k, k < j + 1 → lenAt t k ≤ 20 := by
  intro k hk
  by_cases hkj : k = j
  · subst hkj
    exact hj
  · exact h k (by omega)

theorem take_one (t : List UInt8) (ht : t.length = 236) (j : Nat) (hj : j < 8) : takeS t (2 + (j : Int)) 1 = (((nAt t j : Nat) : Int), 0) := by
  rw [takeS_ok t _ 1 (by omega) (by omega)]
  have e : (2 + (j : Int)).toNat = 2 + j := by omega
  rw [e]
  have e2 : beAt t (2 + j) (1 : Int).toNat = nAt t j := by
    unfold beAt nAt
    have hl : 2 + j < t.length := by omega
    have e4 : (t.drop (2 + j)).take 1 = [t[2 + j]] := by
      rw [List.drop_eq_getElem_cons hl]
      rfl
    rw [show (1 : Int).toNat = 1 from rfl, e4, List.getD, List.getElem?_eq_getElem hl]
    simp [be]
  rw [e2]

set_option maxRecDepth 4000 in
set_option maxHeartbeats 800000 in
theorem tells_at (g off cap : Nat) (t : List UInt8) (w : World) (hB : IsB w (some ⟨g, off, none⟩) 236 t) (hcap : 236 ≤ cap) (q : Pg) (r : Bool) (HT0 : Hid (okT t → q = tellP t ∧ r = true)) (HF0 : Hid (¬ okT t → q = Pg.zero ∧ r = false)) :
    Calls Try.prog 50 #[.slice (some ⟨g, off, none⟩) 236 cap] w fun e w' => e = .returned (.tuple #[.agg (csA q), .bool r]) ∧ Below w.heap.size w w' := by
  have HQ0 : Hid (Tell w (prefT t 0) ((w.alloc (.cells (csA Pg.zero) 33)).alloc (.cells (csA Pg.zero) 33))) := by
    refine ⟨(RowAt.new w 33 (csA Pg.zero)).below ((Below.refl _ _).alloc (Nat.le_refl _) _) (by simp), ?_, ((Below.refl _ _).alloc (Nat.le_refl _) _).alloc (by simp) _⟩
    have h := RowAt.new (w.alloc (.cells (csA Pg.zero) 33)) 33 (csA Pg.zero)
    rw [same_csA (prefT_zero t)]
    simpa using h
  have HB := hide hB
  have hl := hB.1
  clear hB
  go_enter Try.func50, Try.ntmps50
  go_wp2_with fail
  refine gen_wp (fun x => Hid (Tell w (prefT t 0) x)) HQ0 ?_
  clear HQ0
  intro w0 HQ0
  go_loopw [5, 10] (fun a i wr => ∃ j : Nat, j ≤ 8 ∧ i = .int .i64 j ∧ a = .int .i64 (posAt t j : Nat) ∧ Tell w (prefT t j) wr ∧ (∀ k, k < j → lenAt t k ≤ 20)) (fun _ i _ => 8 - (intOf i).toNat)
  case atStart => exact ⟨0, Nat.zero_le _, rfl, rfl, HQ0.out, fun k hk => absurd hk (by omega)⟩
  case round =>
    obtain ⟨j, hj, rfl, rfl, hq, hlen⟩ := hrel
    clear HQ0
    have HQ := hide hq
    have HLN := hide hlen
    have hpl := pos_le _ _ hlen
    clear hq hlen
    by_cases hlt : j < 8
    · have R := take_any (some ⟨g, off, none⟩) 236 cap t (2 + (j : Int)) 1 wr (HB.out.below HQ.out.2.2) (by omega) (by omega)
      rw [take_one t hl j hlt] at R
      have hm2 : nAt t j < 256 := by unfold nAt; exact UInt8.toNat_lt _
      obtain ⟨mm, hmm⟩ : ∃ mm, nAt t j = mm := ⟨_, rfl⟩
      rw [hmm] at R hm2
      have HR := hide R
      have HMM := hide hmm
      clear hmm R
      by_cases h255 : mm = 255
      · subst h255
        have hn := len_unused _ _ HMM.out
        have HN := hide (HQ.out.same (prefT_skip t j hn.2).symm)
        have HP := hide (show posAt t (j + 1) = posAt t j by rw [posAt, hn.1]; rfl)
        have HL2 := hide (len_next HLN.out (show lenAt t j ≤ 20 by omega))
        clear hn HQ HLN
        generalize posAt t j = pp at *
        go_wp2_with fail
        refine HR.out.mono ?_
        rintro e w2 ⟨rfl, rfl⟩
        go_wp2
        go_roundw
        case rel => exact ⟨j + 1, by omega, by go_num, by rw [HP.out], HN.out, HL2.out⟩
        case measure => simp [intOf]; omega
      · have hn := len_used _ _ mm HMM.out h255
        by_cases h20 : 20 < mm
        · have hno := okT_no t j hlt (by rw [hn.1]; exact h20)
          have HE := hide (HF0.out hno)
          have h5 : ((mm : Int) == 255) = false := by simp; omega
          have h6 : (20 : Int) < (mm : Int) := by omega
          have HQ1 := hide HQ.out.1
          have hb1 := HQ.out.2.2
          clear hno hn HQ HLN h255
          generalize posAt t j = pp at *
          go_wp2_with fail
          refine HR.out.mono ?_
          rintro e w2 ⟨rfl, rfl⟩
          go_wp2_with (refine wpList_store_at rfl 33 (.tmp 2) (.tmp 25) rfl w.heap.size (csA Pg.zero) (csA Pg.zero) rfl rfl HQ1.out infoCs rfl (csA_one _) ?_)
          intro w6 hP6 hk _
          have HP6 := hide hP6
          have d6 := hk _ _ hb1 (Nat.le_refl _)
          clear hP6 hk hb1 HQ1
          go_wp2
          rw [HE.out.1, HE.out.2]
          exact bodyPost_ret (res_at rfl _ _ w.heap.size (csA Pg.zero) _ rfl HP6.out Try.underlying33 rfl infoCs) rfl ⟨rfl, d6⟩
        · have h5 : ((mm : Int) == 255) = false := by simp; omega
          have h6 : ¬ (20 : Int) < (mm : Int) := by omega
          have HP := hide (show posAt t (j + 1) = posAt t j + mm by rw [posAt, hn.1])
          have HL2 := hide (len_next HLN.out (show lenAt t j ≤ 20 by omega))
          have HN := hide (tell_more HQ.out hlt hn.2)
          have c1 := HQ.out.2.1.cell (j * 2) _ (csA_used _ j hlt)
          have c2 := HQ.out.2.1.cell (j * 2 + 1) _ (csA_val _ j hlt)
          have f1 := HQ.out.2.1.free (j * 2)
          have f2 := HQ.out.2.1.free (j * 2 + 1)
          obtain ⟨b', o', he', hlt', hcell'⟩ := (HB.out.below HQ.out.2.2).2 (by omega)
          cases he'
          have hcut := IsB.cut hl hlt' hcell' (posAt t j) mm (by omega)
          have hcv := run_toString (P := Try.prog) wr 61 9 5 Try.underlying61 Try.underlying5 Try.underlying9 (some ⟨g, off + posAt t j, none⟩) mm (cap - posAt t j) _ hcut
          have hce : (⟨((t.drop (posAt t j)).take mm).toArray⟩ : ByteArray) = cutAt t j := by unfold cutAt; rw [hn.1]
          rw [hce] at hcv
          have i3 : ¬ cap = posAt t j := by omega
          have i4 : (posAt t j : Int) + (mm : Int) ≤ (cap : Int) := by omega
          clear hn HLN h255 HQ hcell' hcut hce
          generalize posAt t j = pp at *
          generalize cutAt t j = C at *
          go_wp2_with fail
          refine HR.out.mono ?_
          rintro e w2 ⟨rfl, rfl⟩
          go_wp2
          go_roundw
          case rel => exact ⟨j + 1, by omega, by go_num, by rw [HP.out]; go_num, HN.out, HL2.out⟩
          case measure => simp [intOf]; omega
    · obtain rfl : j = 8 := by omega
      have HT := hide (HQ.out.same (prefT_full t))
      obtain ⟨b', o', he', hlt', hcell'⟩ := (HB.out.below HQ.out.2.2).2 (by omega)
      cases he'
      have hp2 : 10 ≤ posAt t 8 := (vals_told t hl HLN.out 8 (by omega)).2
      have hcut := IsB.cut hl hlt' hcell' (posAt t 8) (236 - posAt t 8) (by omega)
      rw [List.take_of_length_le (by rw [List.length_drop]; omega)] at hcut
      have R := noughts_any _ (236 - posAt t 8) (cap - posAt t 8) _ wr hcut (by omega)
      have hiff : okT t ↔ ∀ x ∈ t.drop (posAt t 8), x = 0 := ⟨fun h => h.2, fun h => ⟨HLN.out, h⟩⟩
      have i3 : ¬ cap = posAt t 8 := by omega
      have i4 : (posAt t 8 : Int) ≤ 236 := by omega
      have i5 : (236 : Int) ≤ (cap : Int) := by omega
      by_cases hok : okT t
      · rw [decide_eq_true (hiff.1 hok)] at R
        have HE := hide (HT0.out hok)
        have HR := hide R
        clear R hiff hcut hcell' HQ HLN hpl hlt hj hok HB
        generalize posAt t 8 = pp at *
        go_wp2_with fail
        refine HR.out.mono ?_
        rintro e w2 ⟨rfl, rfl⟩
        clear HR
        go_wp2_with (first | (refine wpList_load_at rfl 33 (.tmp 4) rfl (w.heap.size + 1) rfl (csA (tellP t)) HT.out.2.1 _ Try.underlying33 rfl infoCs ?_) | (refine wpList_store_at rfl 33 (.tmp 2) (.tmp 46) rfl w.heap.size (csA Pg.zero) (csA (tellP t)) rfl rfl HT.out.1 infoCs rfl (csA_one _) ?_))
        intro w6 hP6 hk _
        have HP6 := hide hP6
        have d6 := hk _ _ HT.out.2.2 (Nat.le_refl _)
        clear hP6 hk HT
        go_wp2
        rw [HE.out.1, HE.out.2]
        exact bodyPost_ret (res_at rfl _ _ w.heap.size (csA (tellP t)) _ rfl HP6.out Try.underlying33 rfl infoCs) rfl ⟨rfl, d6⟩
      · rw [decide_eq_false (fun h => hok (hiff.2 h))] at R
        have HE := hide (HF0.out hok)
        have HR := hide R
        clear R hiff hcut hcell' HQ HLN hpl hlt hj hok HB
        generalize posAt t 8 = pp at *
        go_wp2_with fail
        refine HR.out.mono ?_
        rintro e w2 ⟨rfl, rfl⟩
        clear HR
        go_wp2_with (refine wpList_store_at rfl 33 (.tmp 2) (.tmp 45) rfl w.heap.size (csA Pg.zero) (csA Pg.zero) rfl rfl HT.out.1 infoCs rfl (csA_one _) ?_)
        intro w6 hP6 hk _
        have HP6 := hide hP6
        have d6 := hk _ _ HT.out.2.2 (Nat.le_refl _)
        clear hP6 hk HT
        go_wp2
        rw [HE.out.1, HE.out.2]
        exact bodyPost_ret (res_at rfl _ _ w.heap.size (csA Pg.zero) _ rfl HP6.out Try.underlying33 rfl infoCs) rfl ⟨rfl, d6⟩

/-- THE CONTRACT. -/
theorem tells_any (g off cap : Nat) (t : List UInt8) (w : World) (hB : IsB w (some ⟨g, off, none⟩) 236 t) (hcap : 236 ≤ cap) :
    Calls Try.prog 50 #[.slice (some ⟨g, off, none⟩) 236 cap] w fun e w' => e = .returned (.tuple #[.agg (csA (if okT t then tellP t else Pg.zero)), .bool (decide (okT t))]) ∧ Below w.heap.size w w' :=
  tells_at g off cap t w hB hcap _ _ (hide fun h => ⟨if_pos h, decide_eq_true h⟩) (hide fun h => ⟨if_neg h, decide_eq_false h⟩)
end Go.Proofs.Ytfeghhgniahfkaa

/-
  The contract of package page's Decode.
-/
namespace Go.Proofs.Ytfeghhgniahfkaa
open Go.RowKit
set_option linter.unusedVariables false

theorem run_build_pg (l : Nat) (q : Pg) (w : World) : (Instr.build 35 #[(0, .int .u64 (l : Int)), (1, .agg (csA q))]).run Try.prog w = .ok (.agg (pgA ⟨l, q.u, q.s⟩)) w := by kernel_rfl
theorem wpList_build_pg {ops : Array Oper} {rest : List Oper} {o : Oper} {a : Act} {w : World} {Q : Exit → Act → World → Prop} (hw : Region.wanted o (yielded ops a.tmps) = true) (x y : Operand) (ho : o.op = .build 35 #[(0, x), (1, y)])
    (l : Nat) (q : Pg) (hx : a.eval x = .int .u64 (l : Int)) (hy : a.eval y = .agg (csA q)) (h : wpList Try.prog ops Q rest (a.put o.dst (.agg (pgA ⟨l, q.u, q.s⟩))) w) : wpList Try.prog ops Q (o :: rest) a w :=
  wpList_step fun K hK => by
    simp only [hw, if_true]
    unfold Oper.wp execOp
    have e : (#[(0, x), (1, y)] : Array (Nat × Operand)).map (fun z => (z.1, a.eval z.2)) = #[(0, .int .u64 (l : Int)), (1, .agg (csA q))] := by simp [hx, hy]
    have e2 : (#[(0, x), (1, y)] : Array (Nat × Operand)).map (fun (i, x) => (i, a.eval x)) = #[(0, .int .u64 (l : Int)), (1, .agg (csA q))] := e
    simp only [ho, e2, Sem.run_bind, run_build_pg l q w, Result.andThen_ok, Sem.run_pure]
    exact hK _ _ h

section
variable (id : Int) (a : Option Addr) (len cap : Nat) (w : World)

set_option maxRecDepth 4000 in
set_option maxHeartbeats 400000 in
theorem dec_id (h : ¬ (0 ≤ id ∧ id ≤ 31)) :
    Calls Try.prog 24 #[.int .i64 id, .slice a len cap] w fun e w' => e = .returned (.tuple #[.agg (pgA Pg.zero), .int .i64 1]) ∧ Below w.heap.size w w' := by
  have hb0 : Below w.heap.size w (w.alloc (.cells (pgA Pg.zero) 35)) := (Below.refl _ _).alloc (Nat.le_refl _) _
  have HP := hide (show PgAt (w.alloc (.cells (pgA Pg.zero) 35)) w.heap.size Pg.zero from heap_alloc_new w _)
  have R := fun w => rightID_any id w
  rw [decide_eq_false h] at R
  have HR := hide R
  clear R h
  go_enter Try.func24, Try.ntmps24
  go_wp2_with fail
  refine (HR.out _).mono ?_
  rintro e w1 ⟨rfl, rfl⟩
  clear HR
  go_wp2_with (refine wpList_store_page rfl (.tmp 4) (.tmp 15) rfl w.heap.size Pg.zero Pg.zero rfl rfl HP.out ?_)
  intro w2 hP2 hk
  have HP2 := hide hP2
  have d2 := hk _ _ hb0 (Nat.le_refl _)
  clear hP2 hk hb0 HP
  go_wp2
  exact bodyPost_ret (res_page rfl _ _ w.heap.size Pg.zero rfl HP2.out) rfl ⟨rfl, d2⟩

set_option maxRecDepth 4000 in
set_option maxHeartbeats 400000 in
theorem dec_few (h : 0 ≤ id ∧ id ≤ 31) (h3 : (len : Int) < 256) :
    Calls Try.prog 24 #[.int .i64 id, .slice a len cap] w fun e w' => e = .returned (.tuple #[.agg (pgA Pg.zero), .int .i64 4]) ∧ Below w.heap.size w w' := by
  have hb0 : Below w.heap.size w (w.alloc (.cells (pgA Pg.zero) 35)) := (Below.refl _ _).alloc (Nat.le_refl _) _
  have HP := hide (show PgAt (w.alloc (.cells (pgA Pg.zero) 35)) w.heap.size Pg.zero from heap_alloc_new w _)
  have R := fun w => rightID_any id w
  rw [decide_eq_true h] at R
  have HR := hide R
  clear R h
  go_enter Try.func24, Try.ntmps24
  go_wp2_with fail
  refine (HR.out _).mono ?_
  rintro e w1 ⟨rfl, rfl⟩
  clear HR
  go_wp2_with (refine wpList_store_page rfl (.tmp 4) (.tmp 19) rfl w.heap.size Pg.zero Pg.zero rfl rfl HP.out ?_)
  intro w2 hP2 hk
  have HP2 := hide hP2
  have d2 := hk _ _ hb0 (Nat.le_refl _)
  clear hP2 hk hb0 HP
  go_wp2
  exact bodyPost_ret (res_page rfl _ _ w.heap.size Pg.zero rfl HP2.out) rfl ⟨rfl, d2⟩

set_option maxRecDepth 4000 in
set_option maxHeartbeats 400000 in
theorem dec_many (h : 0 ≤ id ∧ id ≤ 31) (h3 : ¬ (len : Int) < 256) (h4 : 256 < (len : Int)) :
    Calls Try.prog 24 #[.int .i64 id, .slice a len cap] w fun e w' => e = .returned (.tuple #[.agg (pgA Pg.zero), .int .i64 2]) ∧ Below w.heap.size w w' := by
  have hb0 : Below w.heap.size w (w.alloc (.cells (pgA Pg.zero) 35)) := (Below.refl _ _).alloc (Nat.le_refl _) _
  have HP := hide (show PgAt (w.alloc (.cells (pgA Pg.zero) 35)) w.heap.size Pg.zero from heap_alloc_new w _)
  have R := fun w => rightID_any id w
  rw [decide_eq_true h] at R
  have HR := hide R
  clear R h
  go_enter Try.func24, Try.ntmps24
  go_wp2_with fail
  refine (HR.out _).mono ?_
  rintro e w1 ⟨rfl, rfl⟩
  clear HR
  go_wp2_with (refine wpList_store_page rfl (.tmp 4) (.tmp 23) rfl w.heap.size Pg.zero Pg.zero rfl rfl HP.out ?_)
  intro w2 hP2 hk
  have HP2 := hide hP2
  have d2 := hk _ _ hb0 (Nat.le_refl _)
  clear hP2 hk hb0 HP
  go_wp2
  exact bodyPost_ret (res_page rfl _ _ w.heap.size Pg.zero rfl HP2.out) rfl ⟨rfl, d2⟩

set_option maxRecDepth 4000 in
set_option maxHeartbeats 400000 in
theorem dec_tears (bs : List UInt8) (hB : IsB w a 256 bs) (h : 0 ≤ id ∧ id ≤ 31) (ht : tornB bs = true) :
    Calls Try.prog 24 #[.int .i64 id, .slice a 256 cap] w fun e w' => e = .returned (.tuple #[.agg (pgA Pg.zero), .int .i64 14]) ∧ Below w.heap.size w w' := by
  have hb0 : Below w.heap.size w (w.alloc (.cells (pgA Pg.zero) 35)) := (Below.refl _ _).alloc (Nat.le_refl _) _
  have HP := hide (show PgAt (w.alloc (.cells (pgA Pg.zero) 35)) w.heap.size Pg.zero from heap_alloc_new w _)
  have R := fun w => rightID_any id w
  rw [decide_eq_true h] at R
  have HR := hide R
  have S := stamp_same a 256 cap bs _ (hB.below hb0) (by omega)
  have e : stampB bs = (0, false) := by unfold stampB; rw [if_neg (fun g => by rw [ht] at g; exact absurd g.2 (by decide))]
  rw [e] at S
  have HS := hide S
  clear R h S e ht hB
  go_enter Try.func24, Try.ntmps24
  go_wp2_with fail
  refine (HR.out _).mono ?_
  rintro e w1 ⟨rfl, rfl⟩
  clear HR
  go_wp2_with fail
  refine HS.out.mono ?_
  rintro e w1 ⟨rfl, rfl⟩
  clear HS
  go_wp2_with (refine wpList_store_page rfl (.tmp 4) (.tmp 31) rfl w.heap.size Pg.zero Pg.zero rfl rfl HP.out ?_)
  intro w2 hP2 hk
  have HP2 := hide hP2
  have d2 := hk _ _ hb0 (Nat.le_refl _)
  clear hP2 hk hb0 HP
  go_wp2
  exact bodyPost_ret (res_page rfl _ _ w.heap.size Pg.zero rfl HP2.out) rfl ⟨rfl, d2⟩
end

set_option maxRecDepth 4000 in
set_option maxHeartbeats 400000 in
theorem dec_sum (id : Int) (g off cap : Nat) (w : World) (bs : List UInt8) (hB : IsB w (some ⟨g, off, none⟩) 256 bs) (hcap : 256 ≤ cap) (h : 0 ≤ id ∧ id ≤ 31) (ht : tornB bs = false) (hs : ¬ leN ((taleOf bs).drop 236) = crc ((taleOf bs).take 236)) :
    Calls Try.prog 24 #[.int .i64 id, .slice (some ⟨g, off, none⟩) 256 cap] w fun e w' => e = .returned (.tuple #[.agg (pgA Pg.zero), .int .i64 3]) ∧ Below w.heap.size w w' := by
  have hb0 : Below w.heap.size w (w.alloc (.cells (pgA Pg.zero) 35)) := (Below.refl _ _).alloc (Nat.le_refl _) _
  have HP := hide (show PgAt (w.alloc (.cells (pgA Pg.zero) 35)) w.heap.size Pg.zero from heap_alloc_new w _)
  have R := fun w => rightID_any id w
  rw [decide_eq_true h] at R
  have HR := hide R
  have S := stamp_same _ 256 cap bs _ (hB.below hb0) (by omega)
  have e : stampB bs = (beAt bs 0 8, true) := by unfold stampB; rw [if_pos ⟨hB.1, ht⟩]
  rw [e] at S
  have HS := hide S
  have HT := hide (taleOf_any g off cap bs _ (hB.below hb0) hcap)
  have htl := taleOf_length bs hB.1
  have ho := openS_no (taleOf bs) (by omega) (by rw [htl]; exact hs)
  have HO := hide ho
  clear R h S e ht hB hs ho
  generalize beAt bs 0 8 = st at *
  go_enter Try.func24, Try.ntmps24
  go_wp2_with fail
  refine (HR.out _).mono ?_
  rintro e w1 ⟨rfl, rfl⟩
  clear HR
  go_wp2_with fail
  refine HS.out.mono ?_
  rintro e w1 ⟨rfl, rfl⟩
  clear HS
  go_wp2_with fail
  refine HT.out.mono ?_
  rintro e w2 ⟨v2, rfl, hown2, hb2⟩
  obtain ⟨a2, cap2, rfl, hcap2, hB2⟩ := shape_isB hown2
  have d2 := hb0.trans (hb2.mono hb0.size)
  have HP2 := hide (HP.out.below hb2 (by simp))
  have O := open_any a2 240 cap2 _ w2 hB2 (by omega) hcap2
  rw [HO.out] at O
  have HOp := hide O
  clear hown2 hb2 hB2 O hb0 HP HT HO
  go_wp2_with fail
  refine HOp.out.mono ?_
  rintro e w3 ⟨v3, rfl, _, hb3⟩
  have d3 := d2.trans (hb3.mono d2.size)
  have HP3 := hide (HP2.out.below hb3 (Array.getElem?_eq_some_iff.1 HP2.out).1)
  clear d2 HP2 hb3 HOp
  go_wp2_with (refine wpList_store_page rfl (.tmp 4) (.tmp 40) rfl w.heap.size Pg.zero Pg.zero rfl rfl HP3.out ?_)
  intro w4 hP4 hk
  have HP4 := hide hP4
  have d4 := hk _ _ d3 (Nat.le_refl _)
  clear hP4 hk d3 HP3
  go_wp2
  exact bodyPost_ret (res_page rfl _ _ w.heap.size Pg.zero rfl HP4.out) rfl ⟨rfl, d4⟩

set_option maxRecDepth 4000 in
set_option maxHeartbeats 800000 in
theorem dec_tell (id : Nat) (g off cap : Nat) (w : World) (bs : List UInt8) (hB : IsB w (some ⟨g, off, none⟩) 256 bs) (hcap : 256 ≤ cap) (h : id < 32) (ht : tornB bs = false) (hs : leN ((taleOf bs).drop 236) = crc ((taleOf bs).take 236)) :
    Calls Try.prog 24 #[.int .i64 id, .slice (some ⟨g, off, none⟩) 256 cap] w fun e w' => e = .returned (.tuple #[.agg (pgA (decP id bs)), .int .i64 (decE id bs)]) ∧ Below w.heap.size w w' := by
  have hb0 : Below w.heap.size w (w.alloc (.cells (pgA Pg.zero) 35)) := (Below.refl _ _).alloc (Nat.le_refl _) _
  have HP := hide (show PgAt (w.alloc (.cells (pgA Pg.zero) 35)) w.heap.size Pg.zero from heap_alloc_new w _)
  have R := fun w => rightID_any id w
  rw [decide_eq_true (show 0 ≤ (id : Int) ∧ (id : Int) ≤ 31 by omega)] at R
  have HR := hide R
  have S := stamp_same _ 256 cap bs _ (hB.below hb0) (by omega)
  have e : stampB bs = (beAt bs 0 8, true) := by unfold stampB; rw [if_pos ⟨hB.1, ht⟩]
  rw [e] at S
  have HS := hide S
  have HT := hide (taleOf_any g off cap bs _ (hB.below hb0) hcap)
  have htl := taleOf_length bs hB.1
  have ho := openS_ok (taleOf bs) (by omega) (by rw [htl]; exact hs)
  rw [htl] at ho
  have HO := hide ho
  have hl236 : ((taleOf bs).take 236).length = 236 := by rw [List.length_take]; omega
  have HD := hide (dec_last id bs (by omega) hB.1 ht hs)
  have hiff := tell_iff id bs (by omega) hB.1 ht hs
  have HI := hide hiff
  have hsc := fun hok => scan_tell bs hB.1 hok
  have HSC := hide hsc
  have e2 : maxP = 4611686018427387904 := rfl
  clear R S e ht hB hs ho htl hiff hsc
  go_enter Try.func24, Try.ntmps24
  go_wp2_with fail
  refine (HR.out _).mono ?_
  rintro e w1 ⟨rfl, rfl⟩
  clear HR
  go_wp2_with fail
  refine HS.out.mono ?_
  rintro e w1 ⟨rfl, rfl⟩
  clear HS
  go_wp2_with fail
  refine HT.out.mono ?_
  rintro e w2 ⟨v2, rfl, hown2, hb2⟩
  obtain ⟨a2, cap2, rfl, hcap2, hB2⟩ := shape_isB hown2
  have d2 := hb0.trans (hb2.mono hb0.size)
  have HP2 := hide (HP.out.below hb2 (by simp))
  have O := open_any a2 240 cap2 _ w2 hB2 (by omega) hcap2
  rw [HO.out] at O
  have HOp := hide O
  clear hown2 hb2 hB2 O hb0 HP HT HO
  go_wp2_with fail
  refine HOp.out.mono ?_
  rintro e w3 ⟨v3, rfl, hown3, hb3⟩
  rw [hl236] at hown3
  obtain ⟨g3, cap3, rfl, hg3⟩ := own_slice hown3 (by omega)
  have hc3 := own_cap hown3
  have hB3 := hown3.isB hl236
  have d3 := d2.trans (hb3.mono d2.size)
  have HP3 := hide (HP2.out.below hb3 (Array.getElem?_eq_some_iff.1 HP2.out).1)
  have HC := hide (tells_any g3 0 cap3 _ w3 hB3 hc3)
  have HB3 := hide hB3
  clear d2 HP2 hb3 HOp hown3 hB3 hg3
  obtain ⟨T, hT⟩ : ∃ T, T = (taleOf bs).take 236 := ⟨_, rfl⟩
  rw [← hT] at HC HB3 HI hl236
  have HTT := hide hT
  clear hT
  obtain ⟨Q2, hQ2⟩ : ∃ q, q = (if okT T then tellP T else Pg.zero) := ⟨_, rfl⟩
  rw [← hQ2] at HC
  have HQQ := hide hQ2
  clear hQ2
  obtain ⟨st, hst⟩ : ∃ s, s = beAt bs 0 8 := ⟨_, rfl⟩
  rw [← hst] at HI ⊢
  have HST := hide hst
  clear hst
  by_cases hall : okT T ∧ beAt T 0 2 = id ∧ st ≤ maxP
  · have hr := HI.out.2 hall
    have he : decE id bs = 0 := by rw [HD.out, if_pos ⟨hr.1, by simpa using hr.2⟩]
    have hp : pgA (decP id bs) = pgA ⟨st, (tellP T).u, (tellP T).s⟩ := by
      unfold decP
      rw [if_pos he]
      refine same_pgA ⟨HST.out.symm, fun i hi => ?_⟩
      have h1 := HSC.out (by rw [← HTT.out]; exact hall.1) i hi
      rw [← HTT.out] at h1
      exact h1
    have HE := hide (And.intro hp he)
    have hq : Q2 = tellP T := by rw [HQQ.out, if_pos hall.1]
    rw [hq, decide_eq_true hall.1] at HC
    have K := fun w' (h' : IsB w' (some ⟨g3, 0, none⟩) 236 T) => tellsID_any (some ⟨g3, 0, none⟩) cap3 T id w' h' h
    rw [decide_eq_true hall.2.1] at K
    have HK := hide K
    have hmx : ((4611686018427387904 : Int) < (st : Int)) = False := by
      have := hall.2.2
      simp
      omega
    clear hr he hp hq K HD HI HSC HQQ HTT HST hall e2 Q2
    go_wp2_with fail
    refine HC.out.mono ?_
    rintro e w4 ⟨rfl, hb4⟩
    have HP4 := hide (HP3.out.below hb4 (Array.getElem?_eq_some_iff.1 HP3.out).1)
    have d4 := d3.trans (hb4.mono d3.size)
    have HB4 := hide (HB3.out.below hb4)
    clear HC hb4 HP3 d3 HB3
    go_wp2_with (refine wpList_store_at rfl 33 (.tmp 10) (.tmp 45) rfl w4.heap.size (csA Pg.zero) (csA (tellP T)) rfl rfl (RowAt.new w4 33 _) infoCs rfl (csA_one _) ?_)
    intro w5 hr5 hk5 _
    have s5 := hk5 _ _ ((Below.refl w4.heap.size w4).alloc (Nat.le_refl _) _) (Nat.le_refl _)
    have HR5 := hide hr5
    have HP5 := hide (HP4.out.below s5 (Array.getElem?_eq_some_iff.1 HP4.out).1)
    have d5 := d4.trans (s5.mono d4.size)
    have HB5 := hide (HB4.out.below s5)
    clear hr5 hk5 s5 HP4 d4 HB4
    go_wp2_with fail
    refine (HK.out _ HB5.out).mono ?_
    rintro e w6 ⟨rfl, rfl⟩
    clear HK HB5
    go_wp2_with (first | (refine wpList_load_at rfl 33 (.tmp 10) rfl w4.heap.size rfl (csA (tellP T)) HR5.out _ Try.underlying33 rfl infoCs ?_) | (refine wpList_build_pg rfl (.tmp 60) (.tmp 61) rfl st (tellP T) rfl rfl ?_) | (refine wpList_store_page rfl (.tmp 4) (.tmp 62) rfl w.heap.size Pg.zero ⟨st, (tellP T).u, (tellP T).s⟩ rfl rfl HP5.out ?_))
    intro w7 hP7 hk7
    have HP7 := hide hP7
    have d7 := hk7 _ _ d5 (Nat.le_refl _)
    clear hP7 hk7 d5 HP5 HR5
    go_wp2
    rw [HE.out.1, HE.out.2]
    exact bodyPost_ret (res_page rfl _ _ w.heap.size ⟨st, (tellP T).u, (tellP T).s⟩ rfl HP7.out) rfl ⟨rfl, d7⟩
  by_cases hok : okT T
  · have hq : Q2 = tellP T := by rw [HQQ.out, if_pos hok]
    rw [hq, decide_eq_true hok] at HC
    have he : decE id bs = 2 := by rw [HD.out, if_neg (fun g => hall (HI.out.1 ⟨g.1, by simpa using g.2⟩))]
    have hp : pgA (decP id bs) = pgA Pg.zero := by rw [decP_no _ _ (by rw [he]; decide)]
    have HE := hide (And.intro hp he)
    by_cases hi : beAt T 0 2 = id
    · have hmx : (4611686018427387904 : Int) < (st : Int) := by
        have h1 : ¬ st ≤ maxP := fun h1 => hall ⟨hok, hi, h1⟩
        omega
      have K := fun w' (h' : IsB w' (some ⟨g3, 0, none⟩) 236 T) => tellsID_any (some ⟨g3, 0, none⟩) cap3 T id w' h' h
      rw [decide_eq_true hi] at K
      have HK := hide K
      clear he hp hq K HD HI HSC HQQ HTT HST hall e2 Q2 hok hi
      go_wp2_with fail
      refine HC.out.mono ?_
      rintro e w4 ⟨rfl, hb4⟩
      have HP4 := hide (HP3.out.below hb4 (Array.getElem?_eq_some_iff.1 HP3.out).1)
      have d4 := d3.trans (hb4.mono d3.size)
      have HB4 := hide (HB3.out.below hb4)
      clear HC hb4 HP3 d3 HB3
      go_wp2_with (refine wpList_store_at rfl 33 (.tmp 10) (.tmp 45) rfl w4.heap.size (csA Pg.zero) (csA (tellP T)) rfl rfl (RowAt.new w4 33 _) infoCs rfl (csA_one _) ?_)
      intro w5 hr5 hk5 _
      have s5 := hk5 _ _ ((Below.refl w4.heap.size w4).alloc (Nat.le_refl _) _) (Nat.le_refl _)
      have HR5 := hide hr5
      have HP5 := hide (HP4.out.below s5 (Array.getElem?_eq_some_iff.1 HP4.out).1)
      have d5 := d4.trans (s5.mono d4.size)
      have HB5 := hide (HB4.out.below s5)
      clear hr5 hk5 s5 HP4 d4 HB4
      go_wp2_with fail
      refine (HK.out _ HB5.out).mono ?_
      rintro e w6 ⟨rfl, rfl⟩
      clear HK HB5
      go_wp2_with (refine wpList_store_page rfl (.tmp 4) (.tmp 59) rfl w.heap.size Pg.zero Pg.zero rfl rfl HP5.out ?_)
      intro w7 hP7 hk7
      have HP7 := hide hP7
      have d7 := hk7 _ _ d5 (Nat.le_refl _)
      clear hP7 hk7 d5 HP5 HR5
      go_wp2
      rw [HE.out.1, HE.out.2]
      exact bodyPost_ret (res_page rfl _ _ w.heap.size Pg.zero rfl HP7.out) rfl ⟨rfl, d7⟩
    · have K := fun w' (h' : IsB w' (some ⟨g3, 0, none⟩) 236 T) => tellsID_any (some ⟨g3, 0, none⟩) cap3 T id w' h' h
      rw [decide_eq_false hi] at K
      have HK := hide K
      clear he hp hq K HD HI HSC HQQ HTT HST hall e2 Q2 hok hi
      go_wp2_with fail
      refine HC.out.mono ?_
      rintro e w4 ⟨rfl, hb4⟩
      have HP4 := hide (HP3.out.below hb4 (Array.getElem?_eq_some_iff.1 HP3.out).1)
      have d4 := d3.trans (hb4.mono d3.size)
      have HB4 := hide (HB3.out.below hb4)
      clear HC hb4 HP3 d3 HB3
      go_wp2_with (refine wpList_store_at rfl 33 (.tmp 10) (.tmp 45) rfl w4.heap.size (csA Pg.zero) (csA (tellP T)) rfl rfl (RowAt.new w4 33 _) infoCs rfl (csA_one _) ?_)
      intro w5 hr5 hk5 _
      have s5 := hk5 _ _ ((Below.refl w4.heap.size w4).alloc (Nat.le_refl _) _) (Nat.le_refl _)
      have HR5 := hide hr5
      have HP5 := hide (HP4.out.below s5 (Array.getElem?_eq_some_iff.1 HP4.out).1)
      have d5 := d4.trans (s5.mono d4.size)
      have HB5 := hide (HB4.out.below s5)
      clear hr5 hk5 s5 HP4 d4 HB4
      go_wp2_with fail
      refine (HK.out _ HB5.out).mono ?_
      rintro e w6 ⟨rfl, rfl⟩
      clear HK HB5
      go_wp2_with (refine wpList_store_page rfl (.tmp 4) (.tmp 59) rfl w.heap.size Pg.zero Pg.zero rfl rfl HP5.out ?_)
      intro w7 hP7 hk7
      have HP7 := hide hP7
      have d7 := hk7 _ _ d5 (Nat.le_refl _)
      clear hP7 hk7 d5 HP5 HR5
      go_wp2
      rw [HE.out.1, HE.out.2]
      exact bodyPost_ret (res_page rfl _ _ w.heap.size Pg.zero rfl HP7.out) rfl ⟨rfl, d7⟩
  · have hq : Q2 = Pg.zero := by rw [HQQ.out, if_neg hok]
    rw [hq, decide_eq_false hok] at HC
    have he : decE id bs = 2 := by rw [HD.out, if_neg (fun g => hall (HI.out.1 ⟨g.1, by simpa using g.2⟩))]
    have hp : pgA (decP id bs) = pgA Pg.zero := by rw [decP_no _ _ (by rw [he]; decide)]
    have HE := hide (And.intro hp he)
    clear he hp hq HD HI HSC HQQ HTT HST hall e2 Q2 hok
    go_wp2_with fail
    refine HC.out.mono ?_
    rintro e w4 ⟨rfl, hb4⟩
    have HP4 := hide (HP3.out.below hb4 (Array.getElem?_eq_some_iff.1 HP3.out).1)
    have d4 := d3.trans (hb4.mono d3.size)
    have HB4 := hide (HB3.out.below hb4)
    clear HC hb4 HP3 d3 HB3
    go_wp2_with (refine wpList_store_at rfl 33 (.tmp 10) (.tmp 45) rfl w4.heap.size (csA Pg.zero) (csA Pg.zero) rfl rfl (RowAt.new w4 33 _) infoCs rfl (csA_one _) ?_)
    intro w5 hr5 hk5 _
    have s5 := hk5 _ _ ((Below.refl w4.heap.size w4).alloc (Nat.le_refl _) _) (Nat.le_refl _)
    have HR5 := hide hr5
    have HP5 := hide (HP4.out.below s5 (Array.getElem?_eq_some_iff.1 HP4.out).1)
    have d5 := d4.trans (s5.mono d4.size)
    have HB5 := hide (HB4.out.below s5)
    clear hr5 hk5 s5 HP4 d4 HB4
    go_wp2_with (refine wpList_store_page rfl (.tmp 4) (.tmp 59) rfl w.heap.size Pg.zero Pg.zero rfl rfl HP5.out ?_)
    intro w7 hP7 hk7
    have HP7 := hide hP7
    have d7 := hk7 _ _ d5 (Nat.le_refl _)
    clear hP7 hk7 d5 HP5 HR5
    go_wp2
    rw [HE.out.1, HE.out.2]
    exact bodyPost_ret (res_page rfl _ _ w.heap.size Pg.zero rfl HP7.out) rfl ⟨rfl, d7⟩

/-- THE CONTRACT. -/
theorem dec_any (id : Int) (a : Option Addr) (len cap : Nat) (bs : List UInt8) (w : World) (hB : IsB w a len bs) (hl : len ≤ 140737488355328) (hcap : len ≤ cap) :
    Calls Try.prog 24 #[.int .i64 id, .slice a len cap] w fun e w' => e = .returned (.tuple #[.agg (pgA (decP id bs)), .int .i64 (decE id bs)]) ∧ Below w.heap.size w w' := by
  have hb := hB.1
  by_cases h : 0 ≤ id ∧ id ≤ 31
  · obtain ⟨n, rfl⟩ := Int.eq_ofNat_of_zero_le h.1
    by_cases h3 : len < 256
    · have e : decE n bs = 4 := by unfold decE; rw [if_neg (by simpa using h), if_pos (by omega)]
      rw [decP_no n bs (by rw [e]; decide), e]
      exact dec_few n a len cap w h (by omega)
    · by_cases h4 : 256 < len
      · have e : decE n bs = 2 := by unfold decE; rw [if_neg (by simpa using h), if_neg (by omega), if_pos (by omega)]
        rw [decP_no n bs (by rw [e]; decide), e]
        exact dec_many n a len cap w h (by omega) (by omega)
      · obtain rfl : len = 256 := by omega
        cases ht : tornB bs with
        | true =>
          have e : decE n bs = 14 := by unfold decE; rw [if_neg (by simpa using h), if_neg (by omega), if_neg (by omega), if_pos ht]
          rw [decP_no n bs (by rw [e]; decide), e]
          exact dec_tears n a cap w bs hB h ht
        | false =>
          obtain ⟨g, off, rfl, _⟩ := hB.2 (by omega)
          by_cases hs : leN ((taleOf bs).drop 236) = crc ((taleOf bs).take 236)
          · exact dec_tell n g off cap w bs hB hcap (by omega) ht hs
          · have e : decE n bs = 3 := by unfold decE; rw [if_neg (by simpa using h), if_neg (by omega), if_neg (by omega), if_neg (by simp [ht]), if_pos hs]
            rw [decP_no n bs (by rw [e]; decide), e]
            exact dec_sum n g off cap w bs hB hcap h ht hs
  · have e : decE id bs = 1 := by unfold decE; rw [if_pos h]
    rw [decP_no id bs (by rw [e]; decide), e]
    exact dec_id id a len cap w h
end Go.Proofs.Ytfeghhgniahfkaa

/-
  The contracts of package page, together.
-/

/-
  The contracts of package store's small functions: Pages, hasPage, isNode, isMask, Out, Image, Read, stamp.
-/
namespace Go.Proofs.Ytfeghhgniahfkaa
open Go.RowKit
set_option linter.unusedVariables false

section
variable {w : World} {gs gp : Nat} {s : Sc}
set_option maxRecDepth 4000 in
set_option maxHeartbeats 400000 in
theorem pages10 (h : SAt w gs gp s) : Calls Try.prog 13 #[.pointer (some ⟨gs, 0, none⟩)] w fun e w' => e = .returned (.int .i64 (s.n : Int)) ∧ w = w' := by
  obtain ⟨cs, ps, h⟩ := h
  have c0 := h.c0
  clear h
  go_enter Try.func13, Try.ntmps13
  go_wp2
  go_ret
  exact ⟨rfl, rfl⟩
set_option maxRecDepth 4000 in
set_option maxHeartbeats 400000 in
theorem pages10_nil (w : World) : Calls Try.prog 13 #[.pointer none] w fun e w' => e = .returned (.int .i64 ((0 : Nat) : Int)) ∧ w = w' := by
  go_enter Try.func13, Try.ntmps13
  go_wp2
  go_ret
  exact ⟨rfl, rfl⟩
set_option maxRecDepth 4000 in
set_option maxHeartbeats 400000 in
theorem pages10_zero (w : World) (g : Nat) (h : w.cell? ⟨g, 0, none⟩ = some (.slice none 0 0)) : Calls Try.prog 13 #[.pointer (some ⟨g, 0, none⟩)] w fun e w' => e = .returned (.int .i64 ((0 : Nat) : Int)) ∧ w = w' := by
  go_enter Try.func13, Try.ntmps13
  go_wp2
  go_ret
  exact ⟨rfl, rfl⟩
set_option maxRecDepth 4000 in
set_option maxHeartbeats 400000 in
theorem has10 (v : Option Addr) (n : Nat) (id : Int) (w : World) (HP : Hid (Calls Try.prog 13 #[.pointer v] w fun e w' => e = .returned (.int .i64 (n : Int)) ∧ w = w')) :
    Calls Try.prog 35 #[.pointer v, .int .i64 id] w fun e w' => e = .returned (.bool (decide (0 ≤ id ∧ id < (n : Int)))) ∧ w = w' := by
  by_cases h0 : 0 ≤ id
  · by_cases h1 : id < (n : Int)
    · rw [decide_eq_true (And.intro h0 h1)]
      go_enter Try.func35, Try.ntmps35
      go_wp2_with fail
      refine HP.out.mono ?_
      rintro e w1 ⟨rfl, rfl⟩
      go_wp2
      go_ret
      exact ⟨rfl, rfl⟩
    · rw [decide_eq_false (fun g => h1 g.2)]
      go_enter Try.func35, Try.ntmps35
      go_wp2_with fail
      refine HP.out.mono ?_
      rintro e w1 ⟨rfl, rfl⟩
      go_wp2
      go_ret
      exact ⟨by simp [h1], rfl⟩
  · rw [decide_eq_false (fun g => h0 g.1)]
    go_enter Try.func35, Try.ntmps35
    go_wp2
    go_ret
    exact ⟨rfl, rfl⟩
set_option maxRecDepth 4000 in
set_option maxHeartbeats 400000 in
theorem isNode10 (n : Int) (w : World) : Calls Try.prog 31 #[.int .i64 n] w fun e w' => e = .returned (.bool (decide (0 ≤ n ∧ n < 8))) ∧ w = w' := by
  by_cases h0 : 0 ≤ n
  · by_cases h1 : n < 8
    · rw [decide_eq_true (And.intro h0 h1)]
      go_enter Try.func31, Try.ntmps31
      go_wp2
      go_ret
      exact ⟨rfl, rfl⟩
    · rw [decide_eq_false (fun g => h1 g.2)]
      go_enter Try.func31, Try.ntmps31
      go_wp2
      go_ret
      exact ⟨rfl, rfl⟩
  · rw [decide_eq_false (fun g => h0 g.1)]
    go_enter Try.func31, Try.ntmps31
    go_wp2
    go_ret
    exact ⟨rfl, rfl⟩

theorem and12 : ∀ m : Nat, m < 16 → (bits BinOp.and IntKind.i64 (m : Int) 12 == 0) = decide (m < 4) := by decide +kernel
theorem and3 : ∀ m : Nat, m < 16 → (bits BinOp.and IntKind.i64 (m : Int) 3 == 3) = decide (m % 4 = 3) := by decide +kernel
set_option maxRecDepth 4000 in
set_option maxHeartbeats 400000 in
theorem isMask10 (m : Int) (w : World) : Calls Try.prog 36 #[.int .i64 m] w fun e w' => e = .returned (.bool (decide (maskOk m))) ∧ w = w' := by
  by_cases h0 : m < 0
  · rw [decide_eq_false (fun g => by omega)]
    go_enter Try.func36, Try.ntmps36
    go_wp2
    go_ret
    exact ⟨rfl, rfl⟩
  · by_cases h1 : 15 < m
    · rw [decide_eq_false (fun g => by omega)]
      go_enter Try.func36, Try.ntmps36
      go_wp2
      go_ret
      exact ⟨rfl, rfl⟩
    · obtain ⟨k, rfl⟩ := Int.eq_ofNat_of_zero_le (show 0 ≤ m by omega)
      have b1 := and12 k (by omega)
      have b2 := and3 k (by omega)
      have h0' : ¬ ((k : Int) < 0) := by omega
      have h1' : ¬ ((15 : Int) < (k : Int)) := by omega
      by_cases h2 : k < 4
      · rw [decide_eq_true h2] at b1
        rw [decide_eq_true (show maskOk (k : Int) by omega)]
        clear h0 h1 h2
        go_enter Try.func36, Try.ntmps36
        go_wp2
        go_ret
        exact ⟨rfl, rfl⟩
      · rw [decide_eq_false h2] at b1
        by_cases h3 : k % 4 = 3
        · rw [decide_eq_true h3] at b2
          rw [decide_eq_true (show maskOk (k : Int) by omega)]
          clear h0 h1 h2 h3
          go_enter Try.func36, Try.ntmps36
          go_wp2
          go_ret
          exact ⟨rfl, rfl⟩
        · rw [decide_eq_false h3] at b2
          rw [decide_eq_false (show ¬ maskOk (k : Int) by omega)]
          clear h0 h1 h2 h3
          go_enter Try.func36, Try.ntmps36
          go_wp2
          go_ret
          exact ⟨rfl, rfl⟩

/-- Out. -/
def Sc.outB (s : Sc) (n : Int) : Bool := decide (0 ≤ n ∧ n < 8) && s.out n.toNat
set_option maxRecDepth 4000 in
set_option maxHeartbeats 400000 in
theorem out10 (n : Int) (h : SAt w gs gp s) : Calls Try.prog 16 #[.pointer (some ⟨gs, 0, none⟩), .int .i64 n] w fun e w' => e = .returned (.bool (s.outB n)) ∧ w = w' := by
  obtain ⟨cs, ps, h⟩ := h
  unfold Sc.outB
  have R := isNode10 n w
  by_cases h0 : 0 ≤ n ∧ n < 8
  · obtain ⟨k, rfl⟩ := Int.eq_ofNat_of_zero_le h0.1
    have c1 := h.cout k (by omega)
    rw [decide_eq_true h0] at R ⊢
    have HR := hide R
    have i1 : (k : Int) < 8 := by omega
    clear R h
    simp only [Bool.true_and, Int.toNat_natCast]
    go_enter Try.func16, Try.ntmps16
    go_wp2_with fail
    refine HR.out.mono ?_
    rintro e w1 ⟨rfl, rfl⟩
    go_wp2
    go_ret
    exact ⟨rfl, rfl⟩
  · rw [decide_eq_false h0] at R ⊢
    have HR := hide R
    clear R h
    simp only [Bool.false_and]
    go_enter Try.func16, Try.ntmps16
    go_wp2_with fail
    refine HR.out.mono ?_
    rintro e w1 ⟨rfl, rfl⟩
    go_wp2
    go_ret
    exact ⟨rfl, rfl⟩
set_option maxRecDepth 4000 in
set_option maxHeartbeats 400000 in
theorem out10_nil (n : Int) (w : World) : Calls Try.prog 16 #[.pointer none, .int .i64 n] w fun e w' => e = .returned (.bool false) ∧ w = w' := by
  go_enter Try.func16, Try.ntmps16
  go_wp2
  go_ret
  exact ⟨rfl, rfl⟩

set_option maxRecDepth 4000 in
set_option maxHeartbeats 400000 in
theorem image10 (i : Nat) (hi : i < s.n) (h : SAt w gs gp s) : Calls Try.prog 23 #[.pointer (some ⟨gs, 0, none⟩), .int .i64 (i : Int)] w fun e w' => ∃ v, e = .returned (.tuple #[v, .int .i64 0]) ∧ w'.ownsRow w.heap.size 5 1 v 256 (toV (s.pl i)) ∧ Below w.heap.size w w' := by
  have R := has10 (some ⟨gs, 0, none⟩) s.n (i : Int) w (pages10 h)
  rw [decide_eq_true (by omega)] at R
  have HR := hide R
  obtain ⟨cs, ps, h⟩ := h
  have c0 := h.c0
  have HE := hide (h.pb.ext h.wf i hi)
  have HP := hide h.pr
  have HBy := hide (bytes10 (s.pl i) w (h.wf.pl i hi))
  have i1 : (i : Int) < (s.n : Int) := by omega
  clear R h
  go_enter Try.func23, Try.ntmps23
  go_wp2_with fail
  refine HR.out.mono ?_
  rintro e w1 ⟨rfl, rfl⟩
  go_wp2_with (refine wpList_load_part rfl 70 _ rfl gp (i * 256) 256 rfl 70 ps HP.out _ Try.underlying70 rfl infoPl HE.out.2 _ HE.out.1 ?_)
  refine HBy.out.mono ?_
  rintro e w2 ⟨v, rfl, ho, hb⟩
  have HO := hide (And.intro ho hb)
  clear ho hb
  go_wp2
  go_ret2
  exact ⟨_, rfl, HO.out⟩
set_option maxRecDepth 4000 in
set_option maxHeartbeats 400000 in
theorem image10_no (v : Option Addr) (n : Nat) (id : Int) (w : World) (HP : Hid (Calls Try.prog 13 #[.pointer v] w fun e w' => e = .returned (.int .i64 (n : Int)) ∧ w = w')) (hid : ¬ (0 ≤ id ∧ id < (n : Int))) :
    Calls Try.prog 23 #[.pointer v, .int .i64 id] w fun e w' => e = .returned (.tuple #[.slice none 0 0, .int .i64 1]) ∧ w = w' := by
  have R := has10 v n id w HP
  rw [decide_eq_false hid] at R
  have HR := hide R
  clear R HP
  go_enter Try.func23, Try.ntmps23
  go_wp2_with fail
  refine HR.out.mono ?_
  rintro e w1 ⟨rfl, rfl⟩
  go_wp2
  go_ret2
  exact ⟨rfl, rfl⟩
set_option maxRecDepth 4000 in
set_option maxHeartbeats 400000 in
theorem stamp10 (i : Nat) (hi : i < s.n) (h : SAt w gs gp s) : Calls Try.prog 38 #[.pointer (some ⟨gs, 0, none⟩), .int .i64 (i : Int)] w fun e w' => e = .returned (.int .u64 ((stampB (s.pl i)).1 : Nat)) ∧ Below w.heap.size w w' := by
  obtain ⟨cs, ps, h⟩ := h
  have c0 := h.c0
  have HE := hide (h.pb.ext h.wf i hi)
  have HP := hide h.pr
  have HBy := hide (bytes10 (s.pl i) w (h.wf.pl i hi))
  have i1 : (i : Int) < (s.n : Int) := by omega
  clear h
  go_enter Try.func38, Try.ntmps38
  go_wp2_with (refine wpList_load_part rfl 70 _ rfl gp (i * 256) 256 rfl 70 ps HP.out _ Try.underlying70 rfl infoPl HE.out.2 _ HE.out.1 ?_)
  refine HBy.out.mono ?_
  rintro e w2 ⟨v, rfl, ho, hb⟩
  obtain ⟨a2, cap2, rfl, hcap2, hB2⟩ := shape_isB ho
  have HS := hide (stamp_any a2 256 cap2 (s.pl i) w2 hB2 (by omega) hcap2)
  have HB := hide hb
  clear ho hb hB2 hcap2
  go_wp2_with fail
  refine HS.out.mono ?_
  rintro e w3 ⟨rfl, hb3⟩
  have HB3 := hide (HB.out.trans (hb3.mono HB.out.size))
  clear hb3 HB HS
  go_wp2
  go_ret
  exact ⟨rfl, HB3.out⟩
set_option maxRecDepth 4000 in
set_option maxHeartbeats 400000 in
theorem read10 (i : Nat) (hi : i < s.n) (h : SAt w gs gp s) : Calls Try.prog 17 #[.pointer (some ⟨gs, 0, none⟩), .int .i64 (i : Int)] w fun e w' => e = .returned (.tuple #[.agg (pgA (decP i (s.pl i))), .int .i64 (decE i (s.pl i))]) ∧ Below w.heap.size w w' := by
  have hb0 : Below w.heap.size w (w.alloc (.cells (pgA Pg.zero) 35)) := (Below.refl _ _).alloc (Nat.le_refl _) _
  have hP0 : PgAt (w.alloc (.cells (pgA Pg.zero) 35)) w.heap.size Pg.zero := heap_alloc_new w _
  have h1 := h.later hb0
  have R := has10 (some ⟨gs, 0, none⟩) s.n (i : Int) _ (pages10 h1)
  rw [decide_eq_true (by omega)] at R
  have HR := hide R
  obtain ⟨cs, ps, h⟩ := h1
  have c0 := h.c0
  have HE := hide (h.pb.ext h.wf i hi)
  have HP := hide h.pr
  have HBy := hide (bytes10 (s.pl i) (w.alloc (.cells (pgA Pg.zero) 35)) (h.wf.pl i hi))
  have i1 : (i : Int) < (s.n : Int) := by omega
  have H0 := hide (And.intro hb0 hP0)
  clear R h hb0 hP0
  go_enter Try.func17, Try.ntmps17
  go_wp2_with fail
  refine HR.out.mono ?_
  rintro e w1 ⟨rfl, rfl⟩
  go_wp2_with (refine wpList_load_part rfl 70 _ rfl gp (i * 256) 256 rfl 70 ps HP.out _ Try.underlying70 rfl infoPl HE.out.2 _ HE.out.1 ?_)
  refine HBy.out.mono ?_
  rintro e w2 ⟨v, rfl, ho, hb⟩
  obtain ⟨a2, cap2, rfl, hcap2, hB2⟩ := shape_isB ho
  have HS := hide (dec_any (i : Int) a2 256 cap2 (s.pl i) w2 hB2 (by omega) hcap2)
  have HB := hide (And.intro (H0.out.1.trans (hb.mono H0.out.1.size)) (H0.out.2.below hb (by simp)))
  clear ho hb hB2 hcap2 H0 HBy HR
  go_wp2_with fail
  refine HS.out.mono ?_
  rintro e w3 ⟨rfl, hb3⟩
  have HB3 := hide (And.intro (HB.out.1.trans (hb3.mono HB.out.1.size)) (HB.out.2.below hb3 (Array.getElem?_eq_some_iff.1 HB.out.2).1))
  clear hb3 HB HS
  obtain ⟨q, hq⟩ : ∃ q, decP i (s.pl i) = q := ⟨_, rfl⟩
  have HQ := hide hq
  clear hq
  rw [HQ.out]
  go_wp2_with (refine wpList_store_page rfl _ _ rfl w.heap.size Pg.zero q rfl rfl HB3.out.2 ?_)
  intro w4 hP4 hk
  have hb4 := hk _ _ HB3.out.1 (Nat.le_refl _)
  have HP4 := hide hP4
  clear hP4 hk HB3
  go_wp2
  exact bodyPost_ret (res_page rfl _ _ w.heap.size q rfl HP4.out) rfl ⟨by rw [HQ.out]; rfl, hb4⟩
set_option maxRecDepth 4000 in
set_option maxHeartbeats 400000 in
theorem read10_no (v : Option Addr) (n : Nat) (id : Int) (w : World) (HP : ∀ x, Below w.heap.size w x → Calls Try.prog 13 #[.pointer v] x fun e w' => e = .returned (.int .i64 (n : Int)) ∧ x = w') (hid : ¬ (0 ≤ id ∧ id < (n : Int))) :
    Calls Try.prog 17 #[.pointer v, .int .i64 id] w fun e w' => e = .returned (.tuple #[.agg (pgA Pg.zero), .int .i64 1]) ∧ Below w.heap.size w w' := by
  have hb0 : Below w.heap.size w (w.alloc (.cells (pgA Pg.zero) 35)) := (Below.refl _ _).alloc (Nat.le_refl _) _
  have hP0 : PgAt (w.alloc (.cells (pgA Pg.zero) 35)) w.heap.size Pg.zero := heap_alloc_new w _
  have R := has10 v n id _ (HP _ hb0)
  rw [decide_eq_false hid] at R
  have HR := hide R
  have H0 := hide (And.intro hb0 hP0)
  clear R HP hb0 hP0
  go_enter Try.func17, Try.ntmps17
  go_wp2_with fail
  refine HR.out.mono ?_
  rintro e w1 ⟨rfl, rfl⟩
  go_wp2_with (refine wpList_store_page rfl _ _ rfl w.heap.size Pg.zero Pg.zero rfl rfl H0.out.2 ?_)
  intro w4 hP4 hk
  have hb4 := hk _ _ H0.out.1 (Nat.le_refl _)
  have HP4 := hide hP4
  clear hP4 hk H0
  go_wp2
  exact bodyPost_ret (res_page rfl _ _ w.heap.size Pg.zero rfl HP4.out) rfl ⟨rfl, hb4⟩
end
end Go.Proofs.Ytfeghhgniahfkaa
