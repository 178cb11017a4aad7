/-
  What PoolVictims and PoolSecond ask of a pool. Of no program.
-/
import Derived.Test.YthigibgokbmehaaPoolMath
import Derived.Test.YthigibgokbmehaaPoolRows
namespace Go.Proofs.Ythigibgokbmehaa
open Go.RowKit
set_option linter.unusedVariables false

/-! ### How many may go -/
def cnt (q : Nat → Bool) : Nat → Nat
  | 0 => 0
  | n + 1 => cnt q n + if q n then 1 else 0
theorem cnt_le (q : Nat → Bool) : ∀ n, cnt q n ≤ n
  | 0 => Nat.le_refl _
  | n + 1 => by
    have := cnt_le q n
    unfold cnt
    cases q n <;> simp <;> omega
theorem cnt_pos (q : Nat → Bool) : ∀ n i, i < n → q i = true → 0 < cnt q n
  | 0, i, h, _ => absurd h (Nat.not_lt_zero _)
  | n + 1, i, h, g => by
    unfold cnt
    by_cases e : i = n
    · rw [← e, g]; simp
    · have := cnt_pos q n i (by omega) g
      omega
theorem cnt_same (q r : Nat → Bool) : ∀ n, (∀ i, i < n → q i = r i) → cnt q n = cnt r n
  | 0, _ => rfl
  | n + 1, h => by
    unfold cnt
    rw [cnt_same q r n (fun i hi => h i (by omega)), h n (by omega)]
theorem cnt_less (q r : Nat → Bool) (j : Nat) (h1 : q j = true) (h2 : r j = false) : ∀ n, j < n → (∀ i, i < n → i ≠ j → r i = q i) → cnt r n + 1 = cnt q n
  | 0, h, _ => absurd h (Nat.not_lt_zero _)
  | n + 1, h, hs => by
    unfold cnt
    by_cases e : j = n
    · subst e
      rw [h1, h2, cnt_same r q j (fun i hi => hs i (by omega) (by omega))]
      simp
    · rw [hs n (by omega) (fun c => e c.symm), ← cnt_less q r j h1 h2 n (by omega) (fun i hi => hs i (by omega))]
      omega
def Fr.mayB (f : Fr) : Bool := f.u && decide (f.f = 0)
theorem Fr.mayB_iff (f : Fr) : f.mayB = true ↔ f.may := by
  unfold Fr.mayB Fr.may
  simp
def Po.mays (p : Po) : Nat := cnt (fun i => (p.fr i).mayB) p.n
theorem Wanes.mays {p q : Po} (h : Wanes p q) : q.mays = p.mays := by
  unfold Po.mays
  rw [h.n]
  exact cnt_same _ _ _ fun i _ => by
    unfold Fr.mayB
    rw [(h.u i).1, (h.u i).2.2.2.1]
/-- Who is told is there, and without fixes. -/
theorem Po.ok.vic_at {p : Po} {b : Nat} (h : p.ok b) (he : p.vicE = 0) : ∃ i, i < p.n ∧ p.vic.1.at p.vicI = some i ∧ (p.vic.1.fr i).may ∧ (p.vic.1.fr i).m = false ∧ (p.vic.1.fr i).id = p.vicI ∧ p.vic.1.h = nxt i p.n := by
  unfold Po.vicE at he
  unfold Po.vicI
  cases e : p.vic.2 with
  | none => rw [e] at he; exact absurd he (by decide)
  | some v =>
    obtain ⟨i, h1, h2, h3, h4, h5⟩ := Po.walk_told _ p v h.hn e
    have w := p.vic_wanes
    have hm := (w.may i).2 h2
    have hid : (p.vic.1.fr i).id = v := by rw [(w.u i).2.1]; exact h3
    refine ⟨i, h1, ?_, hm, h4, hid, h5⟩
    have := h.vic.at_id (i := i) (by rw [w.n]; exact h1) hm.1
    rw [hid] at this
    exact this
theorem Po.vic_not (p : Po) {b : Nat} (h : p.ok b) (he : ¬ p.vicE = 0) : (∀ i, i < p.n → ¬ (p.fr i).may) ∧ p.vic = (p, none) ∧ p.vicE = 8 := by
  have h1 : ∀ i, i < p.n → ¬ (p.fr i).may := fun i hi hm => he ((p.vicE_iff h.hn).2 ⟨i, hi, hm⟩)
  exact ⟨h1, p.vic_none h.hn h1, (p.vicE_two).resolve_left he⟩
/-- One goes. -/
theorem Po.ok.gone {p : Po} {b : Nat} (h : p.ok b) (he : p.vicE = 0) : p.vic.1.unfixE p.vicI = 13 ∧ p.vic.1.unfix p.vicI = p.vic.1 ∧ p.vic.1.dropE p.vicI = 0 ∧ (p.vic.1.drop p.vicI).mays + 1 = p.mays := by
  obtain ⟨i, h1, h2, h3, h4, h5, h6⟩ := h.vic_at he
  have w := p.vic_wanes
  have hf : (p.vic.1.fr i).f = 0 := h3.2
  refine ⟨?_, ?_, ?_, ?_⟩
  · unfold Po.unfixE; rw [h2]; simp only [hf, if_true]
  · unfold Po.unfix; rw [h2]; simp only [hf, if_true]
  · unfold Po.dropE; rw [h2]; simp only [hf, if_true]
  · rw [← w.mays]
    unfold Po.drop
    rw [h2]
    simp only [hf, if_true]
    refine cnt_less _ _ i ((Fr.mayB_iff _).2 h3) ?_ _ (by show i < p.vic.1.n; rw [w.n]; exact h1) (fun k _ hk => ?_)
    · show ((p.vic.1.set i (Fr.empty p.vic.1.z)).fr i).mayB = false
      rw [Po.set_same]
      rfl
    · show ((p.vic.1.set i (Fr.empty p.vic.1.z)).fr k).mayB = _
      rw [Po.set_ne _ _ _ _ hk]
theorem Po.mays_none {p : Po} {b : Nat} (h : p.ok b) (he : p.mays = 0) : ¬ p.vicE = 0 := fun c => by
  obtain ⟨i, hi, hm⟩ := (p.vicE_iff h.hn).1 c
  have := cnt_pos (fun i => (p.fr i).mayB) p.n i hi ((Fr.mayB_iff _).2 hm)
  unfold Po.mays at he
  omega
theorem Po.mays_le {p : Po} {b : Nat} (h : p.ok b) : p.mays ≤ 16 := Nat.le_trans (cnt_le _ _) h.n16

/-! ### One fix less, page by page -/
theorem Po.at_turn (p : Po) (i : Nat) (f : Fr) (h : f.u = (p.fr i).u ∧ f.id = (p.fr i).id) (id : Int) : (p.set i f).at id = p.at id := by
  show look _ p.n = look _ p.n
  congr 1
  funext k
  by_cases e : k = i
  · rw [e, Po.set_same, h.1, h.2]
  · rw [Po.set_ne _ _ _ _ e]
theorem Po.unfix_at (p : Po) (i id : Int) : (p.unfix i).at id = p.at id := by
  unfold Po.unfix
  cases e : p.at i with
  | none => rfl
  | some k =>
    by_cases g : (p.fr k).f = 0
    · simp only [g, if_true]
    · simp only [g, if_false]
      exact p.at_turn k { p.fr k with f := (p.fr k).f - 1 } ⟨rfl, rfl⟩ id
theorem Po.unfix_other (p : Po) (i id : Int) (h : id ≠ i) : (p.unfix i).unfixE id = p.unfixE id := by
  unfold Po.unfixE
  rw [p.unfix_at]
  cases e : p.at id with
  | none => rfl
  | some k =>
    have hk := (Po.at_some.1 e).2.1.2
    unfold Po.unfix
    cases e2 : p.at i with
    | none => rfl
    | some l =>
      have hl := (Po.at_some.1 e2).2.1.2
      have hne : k ≠ l := fun c => h (by rw [← hk, ← hl, c])
      by_cases g : (p.fr l).f = 0
      · simp only [g, if_true]
      · simp only [g, if_false, Po.set_ne _ _ _ _ hne]
/-- The pages rise. -/
theorem Po.idsTo_mem (p : Po) : ∀ k x, x ∈ p.idsTo k → (∃ j : Nat, j < k ∧ x = (j : Int)) ∧ p.has x = true
  | 0, x, h => by cases h
  | k + 1, x, h => by
    by_cases g : p.has (k : Int) = true
    · rw [p.idsTo_yes k g, List.mem_append, List.mem_singleton] at h
      rcases h with h | h
      · obtain ⟨⟨j, hj, e⟩, h2⟩ := p.idsTo_mem k x h
        exact ⟨⟨j, by omega, e⟩, h2⟩
      · rw [h]
        exact ⟨⟨k, by omega, rfl⟩, g⟩
    · rw [p.idsTo_no k (by simpa using g)] at h
      obtain ⟨⟨j, hj, e⟩, h2⟩ := p.idsTo_mem k x h
      exact ⟨⟨j, by omega, e⟩, h2⟩
theorem Po.idsTo_rise (p : Po) : ∀ k, (p.idsTo k).Pairwise (· < ·)
  | 0 => List.Pairwise.nil
  | k + 1 => by
    by_cases g : p.has (k : Int) = true
    · rw [p.idsTo_yes k g, List.pairwise_append]
      refine ⟨p.idsTo_rise k, List.pairwise_singleton _ _, fun a ha b hb => ?_⟩
      obtain ⟨⟨j, hj, e⟩, _⟩ := p.idsTo_mem k a ha
      rw [List.mem_singleton] at hb
      omega
    · rw [p.idsTo_no k (by simpa using g)]
      exact p.idsTo_rise k
/-- Where nobody may go each page has a fix. -/
theorem Po.ok.fixed {p : Po} {b : Nat} (h : p.ok b) (hn : ∀ i, i < p.n → ¬ (p.fr i).may) (id : Int) (hh : p.has id = true) : p.unfixE id = 0 := by
  unfold Po.has at hh
  unfold Po.unfixE
  cases e : p.at id with
  | none => rw [e] at hh; cases hh
  | some i =>
    obtain ⟨h1, h2, _⟩ := Po.at_some.1 e
    have : ¬ (p.fr i).f = 0 := fun c => hn i h1 ⟨h2.1, c⟩
    simp only [this, if_false]

/-! ### Who was asked for stays -/
theorem Po.get_any (p : Po) (id : Int) : (p.get id).any ↔ p.any := by
  have key : ∀ i, ((p.get id).fr i).may ↔ (p.fr i).may := fun i => by
    unfold Po.get
    cases e : p.at id with
    | none => exact Iff.rfl
    | some k =>
      by_cases g : i = k
      · rw [g, Po.set_same]; exact Iff.rfl
      · rw [Po.set_ne _ _ _ _ g]
  have hn : (p.get id).n = p.n := by
    unfold Po.get
    cases p.at id <;> rfl
  unfold Po.any
  rw [hn]
  constructor
  · rintro ⟨i, h1, h2⟩; exact ⟨i, h1, (key i).1 h2⟩
  · rintro ⟨i, h1, h2⟩; exact ⟨i, h1, (key i).2 h2⟩
theorem Wanes.any {p q : Po} (h : Wanes p q) : q.any ↔ p.any := by
  unfold Po.any
  rw [h.n]
  constructor
  · rintro ⟨i, h1, h2⟩; exact ⟨i, h1, (h.may i).1 h2⟩
  · rintro ⟨i, h1, h2⟩; exact ⟨i, h1, (h.may i).2 h2⟩
theorem Po.get_get (p : Po) (id : Int) : (p.get id).get id = p.get id := by
  cases e : p.at id with
  | none =>
    have h1 : p.get id = p := by unfold Po.get; rw [e]
    rw [h1, h1]
  | some k =>
    have h1 : p.get id = p.set k { p.fr k with m := true } := by unfold Po.get; rw [e]
    have h2 := p.at_turn k { p.fr k with m := true } ⟨rfl, rfl⟩ id
    rw [h1]
    unfold Po.get
    rw [h2, e]
    simp only [Po.set_same, Po.set_set]
/-- The two victims' errors are alike; and asked for, another one goes. -/
theorem Po.ok.second {p : Po} {b : Nat} (h : p.ok b) (id : Int) : (p.vicE = 0 ↔ p.vic.1.vicE = 0) ∧ (p.vicE = 0 → p.vic.1.vic.1.has id = true → p.vic.1.vicI ≠ id → ((p.vic.1.vic.1.get id).vicE = 0 ∧ (p.vic.1.vic.1.get id).vicI ≠ id)) := by
  have w1 := p.vic_wanes
  have o1 := h.vic
  have w2 := p.vic.1.vic_wanes
  have o2 := o1.vic
  have o3 := o2.get id
  have e1 : p.vicE = 0 ↔ p.vic.1.vicE = 0 := by rw [p.vicE_iff h.hn, p.vic.1.vicE_iff o1.hn, w1.any]
  refine ⟨e1, fun he hh hne => ?_⟩
  have hE : (p.vic.1.vic.1.get id).vicE = 0 := by
    rw [Po.vicE_iff _ o3.hn, Po.get_any, w2.any, ← Po.vicE_iff _ o1.hn]
    exact e1.1 he
  refine ⟨hE, ?_⟩
  obtain ⟨c, c1, c2, c3, c4, c5, c6⟩ := o1.vic_at (e1.1 he)
  unfold Po.has at hh
  cases e : p.vic.1.vic.1.at id with
  | none => rw [e] at hh; cases hh
  | some i =>
    obtain ⟨i1, i2, _⟩ := Po.at_some.1 e
    have hci : i ≠ c := fun g => hne (by rw [← c5, ← g]; exact i2.2)
    have hg : p.vic.1.vic.1.get id = p.vic.1.vic.1.set i { p.vic.1.vic.1.fr i with m := true } := by
      unfold Po.get
      rw [e]
    rw [hg] at hE o3 ⊢
    have c1' : c < p.vic.1.vic.1.n := by rw [w2.n]; exact c1
    intro hv
    unfold Po.vicE at hE
    unfold Po.vicI at hv
    cases ev : (p.vic.1.vic.1.set i { p.vic.1.vic.1.fr i with m := true }).vic.2 with
    | none => rw [ev] at hE; exact absurd hE (by decide)
    | some v =>
      rw [ev] at hv
      have hv : v = id := hv
      obtain ⟨d, d1, d2, d3, d4⟩ := Po.walk_second _ _ i c v o3.hn i1 c1' hci (by rw [Po.set_ne _ _ _ _ (fun g => hci g.symm)]; exact c3) (by rw [Po.set_ne _ _ _ _ (fun g => hci g.symm)]; exact c4) (.inr (.inl (by rw [Po.set_same]))) ev
      rw [Po.set_ne _ _ _ _ d2] at d3 d4
      exact d2 (o2.one d i d1 i1 d3.1 i2.1 (by rw [d4, hv, i2.2]))
end Go.Proofs.Ythigibgokbmehaa
