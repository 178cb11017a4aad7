/-
  A row of numbers of one's own, sorted and made of single ones.
-/
import Derived.Test.YtjdabcapphiplaaLkRows
import Derived.Test.YtjdabcapphiplaaLkShelf
namespace Go.Proofs.Ytjdabcapphiplaa
open Go.RowKit
set_option linter.unusedVariables false

/-- A row laid anew. -/
theorem OwnI.laid {B b c : Nat} {w : World} {l : List Int} (h : OwnI B w (.slice (some ⟨b, 0, none⟩) l.length c) l) (q : Nat) (vs : List Int) (hv : vs.length = l.length) (n : Nat) (hn : n ≤ l.length) :
    OwnI B ((w.drewN q).setCells b 0 (vs.map (Value.int .i64))) (.slice (some ⟨b, 0, none⟩) n c) (vs.take n) ∧ Tn (Is b) w ((w.drewN q).setCells b 0 (vs.map (Value.int .i64))) := by
  have hT : Tn (Is b) w ((w.drewN q).setCells b 0 (vs.map (Value.int .i64))) := (show Tn (Is b) w (w.drewN q) from ⟨rfl, rfl, rfl, Nat.le_refl _, fun _ _ _ => rfl⟩).then (setCells_tn _ _ _ b (Is b) (show Is b b from rfl))
  refine ⟨?_, hT⟩
  rcases h.2 with ⟨e, _⟩ | ⟨g', cap, cur, e, hb, hr, hcap, hm, hs, ht⟩
  · cases e
  · injection e with e1 e2 e3
    injection e1 with e1
    injection e1 with e1
    subst e1 e3
    have hr' : RowAt (w.drewN q) b 3 cur := hr
    obtain ⟨ds, d1, d2⟩ := setCells_row (vs.map (Value.int .i64)) 0 (w.drewN q) b _ cur hr'
    have hlen : (vs.take n).length = n := by rw [List.length_take]; omega
    refine ⟨by rw [intsV_len, hlen, Nat.mul_one], .inr ⟨b, c, ds, by rw [hlen], hb, d1, by omega, hm, by rw [d2]; exact hs, ?_⟩⟩
    rw [hlen, Nat.mul_one]
    apply List.ext_getElem?
    intro j
    by_cases hj : j < n
    · have hin := World.cell?_setCells_in b (vs.map (Value.int .i64)) 0 (w.drewN q) (fun k hk => some_of_row hr' (by rw [List.length_map] at hk; omega)) j (by rw [List.length_map]; omega)
      rw [Nat.zero_add, cell_of_row _ b j _ _ (0, 0) d1] at hin
      rw [List.getElem?_take, if_pos hj, Array.getElem?_toList, hin]
      simp [intsV, hj, List.getElem?_eq_getElem (show j < vs.length by omega)]
    · rw [List.getElem?_eq_none (by rw [List.length_take]; omega), List.getElem?_eq_none (by rw [intsV_len, hlen]; omega)]
theorem below_grow (w : World) (os : Array Obj) : Below w.heap.size w (Go.Sort.grow w os) := ⟨rfl, rfl, rfl, by simp [Go.Sort.grow], fun i hi => Go.Sort.heap_grow_old w os hi⟩
theorem OwnI.cap {B b n c : Nat} {w : World} {l : List Int} (h : OwnI B w (.slice (some ⟨b, 0, none⟩) n c) l) : n = l.length ∧ l.length ≤ c ∧ c ≤ maxLen ∧ b < w.heap.size := by
  rcases h.2 with ⟨e, _⟩ | ⟨g', cap, cur, e, hb, hr, hcap, hm, hs, ht⟩
  · cases e
  · injection e with e1 e2 e3
    injection e1 with e1
    injection e1 with e1
    subst e1 e3
    exact ⟨e2, hcap, hm, (show RowAt w b 3 cur from hr).lt⟩
theorem OwnI.free {B b n c : Nat} {w : World} {l : List Int} (h : OwnI B w (.slice (some ⟨b, 0, none⟩) n c) l) (j : Nat) : w.frozen? ⟨b, j, none⟩ = false := by
  obtain ⟨_, cs, h1⟩ := h.block (k := b) rfl
  exact h1.free j
theorem sorted13 {B : Nat} {w : World} {v : Value} {l : List Int} (h : OwnI B w v l) (hl : l.length ≤ 1000000) :
    Calls Try.prog 43 #[v] w fun e w' => e = .returned (.tuple #[]) ∧ OwnI B w' v (l.mergeSort fun x y => decide (x ≤ y)) ∧ Tn (fun k => v.ownBlock = some k) w w' := by
  obtain ⟨a, c, rfl⟩ := h.shape
  cases a with
  | none =>
    have h0 : l = [] := by
      cases l with
      | nil => rfl
      | cons x l =>
        obtain ⟨b, e, _⟩ := h.at (j := 0) (by simp)
        cases e
    subst h0
    refine (sort_int_none13 none c w).mono ?_
    rintro e w' ⟨rfl, rfl⟩
    exact ⟨rfl, by simpa using h, Tn.refl _ _⟩
  | some a =>
    have h' := h
    obtain ⟨b, rfl⟩ : ∃ b, a = ⟨b, 0, none⟩ := by
      rcases h.2 with ⟨e, _⟩ | ⟨g', cap, cur, e, _⟩
      · cases e
      · injection e with e1
        injection e1 with e1
        exact ⟨g', e1⟩
    have hc := h.cap
    have hH : Go.Sort.Holds (Value.int .i64) w b 0 l.toArray := by
      have := Go.Lib.holds_of_ints (w := w) (b := b) (off := 0) (n := l.length) (zs := l) (Nat.le_refl _) (fun j hj => by
        obtain ⟨b', e, hb'⟩ := h.at hj
        injection e with e
        injection e with e
        subst e
        rw [Nat.zero_add]
        exact hb') (fun j _ => h.free _)
      rwa [List.take_length] at this
    refine (sort_int13 b 0 c l w hH hc.2.2.2 (by omega)).mono ?_
    rintro e w' ⟨rfl, n, os, rfl⟩
    have hml : (l.mergeSort fun x y => decide (x ≤ y)).length = l.length := List.length_mergeSort _
    rw [Go.Lib.putRow_eq_setCells _ w b 0 l.toArray _ n hH (by rw [hml]; rfl)]
    have hq := h.laid n (l.mergeSort fun x y => decide (x ≤ y)) hml l.length (Nat.le_refl _)
    rw [← hml, List.take_length, hml] at hq
    exact ⟨rfl, hq.1.later (below_grow _ os), (hq.2.weak (fun k hk => by rw [hk]; rfl)).later (below_grow _ os)⟩
theorem compacted13 {B : Nat} {w : World} {v : Value} {l : List Int} (h : OwnI B w v l) (hl : l.length ≤ 1000000) :
    Calls Try.prog 44 #[v] w fun e w' => ∃ v', e = .returned v' ∧ OwnI B w' v' (Go.Lib.compact l) ∧ Tn (fun k => v.ownBlock = some k) w w' := by
  obtain ⟨a, c, rfl⟩ := h.shape
  cases a with
  | none =>
    have h0 : l = [] := by
      cases l with
      | nil => rfl
      | cons x l =>
        obtain ⟨b, e, _⟩ := h.at (j := 0) (by simp)
        cases e
    subst h0
    refine (compact_int_none13 none c w).mono ?_
    rintro e w' ⟨rfl, rfl⟩
    exact ⟨_, rfl, h, Tn.refl _ _⟩
  | some a =>
    obtain ⟨b, rfl⟩ : ∃ b, a = ⟨b, 0, none⟩ := by
      rcases h.2 with ⟨e, _⟩ | ⟨g', cap, cur, e, _⟩
      · cases e
      · injection e with e1
        injection e1 with e1
        exact ⟨g', e1⟩
    have hc := h.cap
    have hcl := Go.Lib.compact_length_le l
    refine (compact_int13 b 0 l.length c l w (Nat.le_refl _) (by omega) hc.2.1 (fun j hj => by
        obtain ⟨b', e, hb'⟩ := h.at hj
        injection e with e
        injection e with e
        subst e
        rw [Nat.zero_add]
        exact hb') (fun j _ => h.free _)).mono ?_
    rintro e w' ⟨rfl, q, rfl⟩
    rw [List.take_length]
    have hq := h.laid q (Go.Lib.compact l ++ List.replicate (l.length - (Go.Lib.compact l).length) 0) (by rw [List.length_append, List.length_replicate]; omega) (Go.Lib.compact l).length hcl
    rw [List.take_left' rfl] at hq
    exact ⟨_, rfl, hq.1, hq.2.weak (fun k hk => by rw [hk]; rfl)⟩
/-- What is sorted and made of single ones rises. -/
theorem compact_upto {d : Array Int} (hs : ∀ i j, i ≤ j → j < d.size → d[i]! ≤ d[j]!) : ∀ m, m ≤ d.size → (Go.Lib.compactUpTo d m).Pairwise (· < ·) ∧ ∀ a, a ∈ Go.Lib.compactUpTo d m ↔ ∃ j, j < m ∧ d[j]! = a := by
  intro m
  induction m with
  | zero => exact fun _ => ⟨List.Pairwise.nil, fun a => ⟨fun h => absurd h (by simp [Go.Lib.compactUpTo]), fun ⟨j, h, _⟩ => absurd h (Nat.not_lt_zero _)⟩⟩
  | succ m ih =>
    intro hm
    obtain ⟨h1, h2⟩ := ih (by omega)
    rw [Go.Lib.compactUpTo_succ]
    by_cases hk : Go.Lib.keeps d m = true
    · rw [if_pos hk]
      refine ⟨List.pairwise_append.2 ⟨h1, List.pairwise_singleton _ _, fun a ha b hb => ?_⟩, fun a => ?_⟩
      · obtain ⟨j, hj, rfl⟩ := (h2 a).1 ha
        rw [List.mem_singleton.1 hb]
        unfold Go.Lib.keeps at hk
        rcases of_decide_eq_true hk with h | h
        · omega
        · have q1 := hs j (m - 1) (by omega) (by omega)
          have q2 := hs (m - 1) m (by omega) (by omega)
          omega
      · rw [List.mem_append, List.mem_singleton, h2]
        constructor
        · rintro (⟨j, hj, e⟩ | e)
          · exact ⟨j, by omega, e⟩
          · exact ⟨m, by omega, e.symm⟩
        · rintro ⟨j, hj, e⟩
          by_cases hjm : j = m
          · subst hjm
            exact .inr e.symm
          · exact .inl ⟨j, by omega, e⟩
    · rw [if_neg hk, List.append_nil]
      refine ⟨h1, fun a => ?_⟩
      rw [h2]
      constructor
      · rintro ⟨j, hj, e⟩
        exact ⟨j, by omega, e⟩
      · rintro ⟨j, hj, e⟩
        by_cases hjm : j = m
        · subst hjm
          unfold Go.Lib.keeps at hk
          rw [decide_eq_true_iff, not_or, Decidable.not_not] at hk
          exact ⟨j - 1, by omega, by rw [← hk.2]; exact e⟩
        · exact ⟨j, by omega, e⟩
theorem compact_rises {l : List Int} (hs : l.Pairwise (· ≤ ·)) : Rises (Go.Lib.compact l) ∧ ∀ a, a ∈ Go.Lib.compact l ↔ a ∈ l := by
  have hg : ∀ i, i < l.length → l.toArray[i]! = l.getD i 0 := fun i hi => by simp [List.getD, hi]
  have h := compact_upto (d := l.toArray) (fun i j hij hj => by
    have hj' : j < l.length := by simpa using hj
    rw [hg i (by omega), hg j hj']
    by_cases e : i = j
    · subst e
      exact Int.le_refl _
    · have := List.pairwise_iff_getElem.1 hs i j (by omega) hj' (by omega)
      simpa [List.getD, List.getElem?_eq_getElem hj', List.getElem?_eq_getElem (show i < l.length by omega)] using this) l.length (by simp)
  refine ⟨h.1, fun a => ?_⟩
  show a ∈ Go.Lib.compactUpTo l.toArray l.length ↔ _
  rw [h.2]
  constructor
  · rintro ⟨j, hj, e⟩
    rw [hg j hj, List.getD_eq_getElem?_getD, List.getElem?_eq_getElem hj] at e
    rw [← e]
    exact List.getElem_mem hj
  · intro ha
    obtain ⟨j, hj, e⟩ := List.mem_iff_getElem.1 ha
    exact ⟨j, hj, by rw [hg j hj, List.getD_eq_getElem?_getD, List.getElem?_eq_getElem hj]; exact e⟩
theorem sort_rises (l : List Int) : Rises (Go.Lib.compact (l.mergeSort fun x y => decide (x ≤ y))) ∧ ∀ a, a ∈ Go.Lib.compact (l.mergeSort fun x y => decide (x ≤ y)) ↔ a ∈ l := by
  have h := compact_rises (l := l.mergeSort fun x y => decide (x ≤ y)) ((List.pairwise_mergeSort (le := fun x y => decide (x ≤ y)) (fun a b c h1 h2 => by simp only [decide_eq_true_eq] at *; omega) (fun a b => by simp; omega) l).imp (fun h => by simpa using h))
  exact ⟨h.1, fun a => (h.2 a).trans List.mem_mergeSort⟩
end Go.Proofs.Ytjdabcapphiplaa
